import PyProof.Rows.All
import Wide.All
import OpenK.AllK
import Wide.FinOn
import PyProof.EqAt
import PyProof.EqKinds
import PyProof.TupleCall
import HandS.ForExc
import HandS.ForMost
import HandS.Dict
import HandS.Comp
import HandS.IsInst
import HandS.StrMore
import PyProof.StrBlock2
import HandS.Zip
import HandS.Walk
import KE.GoesNew
import KE.GoesMore
import HandS.TupAny
import HandS.ExcInit
import HandS.ExcField
import HandS.Star
import HandS.Lambda
import HandS.EndTab
import KE.KNest
import KE.KNestM
import HandS.TupMul
import HandS.MakeKw
import HandS.ExcOwn
import KE.KParD
import KE.KExcLine
import KE.KExcIs
import KE.RegKIsAll
import HandS.MakeKwOnly
import HandS.Deep
import PyProof.P3Eq
import PyProof.InstEq
import HandS.Codes
import KE.KOpsOwn
import KE.DataFind
import HandS.OwnEq
import PySem.Challenge.RW_midswitch_k06_requests_asked
set_option Elab.async false
set_option linter.all false
set_option maxRecDepth 100000
set_option maxHeartbeats 4000000
namespace Ms
open PySem PySem.Spec PyProof.Rows L2
section
variable {P : Program} {w : World} {K : PySem.W.Frag} {mg : Str → Option Value} {base : Heap}
theorem deeper_guards {A : Around} {env : Env} (h : A.guards = some []) : (A.deeper env).guards = some [] := h
/-- a def is run where it is known that no guard stands (repr asks for that) -/
theorem run_known {x qual : Str} {st : Stmt} {f : Addr} {fd : FuncData} {N ps : List Str} {k : Nat} (F : Fun K x qual st f fd) (S : FnScope N ps (defScope st))
    {A : Around} {outer : List Env} {s : Shared} {H : Hp} {args : Args} {us : List Value} {vs : List V} {Q : VK} {E : XK}
    (gA : A.guards = some []) (rm : Room (k + 1) A) (st0 : Env0 P w K mg base A outer s H) (bd : BindsTo s fd args (ps.zip us)) (rel : Vals vs us) (ln : vs.length = ps.length)
    (walk : ∀ cdv : Value, Room k (A.deeper (envOfC qual (defScope st) s.heap.objs.size f cdv)) →
      ∃ t, PSs (cxOf CX0 P w K mg base N qual (defScope st) f cdv A outer s H E).nox (defBody st) t ∧ t { nx := fun _ H' => Q .non H', rt := Q } (start N vs) H) :
    codeAny (model P w) A (.call (.ref f) args) (CR CX0 outer P w H s Q E) s := by
  obtain ⟨oc, od, kV, doc, pm, an, cdv, ct, osl, rfl, atK, code⟩ := F.ex
  have inH : K.In s.heap := st0.mod.kin.keeps fun b o q => (st0.bs b o q).1
  have noLim : s.heap.NoLimit := st0.mod.nolimit.keeps fun b o q => (st0.bs b o q).1
  have kinds : ∀ y ∈ ps.zip us, (defScope st).names.lookup y.1 = some .local ∨ ((defScope st).names.lookup y.1 = some .cell ∧ ((cellsFrom (s.heap.objs.size + 1) (defScope st).names []).lookup y.1).isSome = true) := by
    rintro ⟨n, v⟩ hy
    rcases S.par n (List.of_mem_zip hy).1 with z | z
    · exact Or.inl z
    · exact Or.inr ⟨z, PySem.W.cellsFrom_some _ _ _ (.inl z)⟩
  refine codeAny_call_function rm.depth (inH _ _ atK) rfl S.co S.gen rfl (PySem.W.codeRec_of inH code) (bd _ _ _ _ ?_)
  refine wpAny_newFunctionEnv_cells S.kind kinds fun env eq s1 inC => ?_
  subst eq
  refine And.intro (noLim.keeps inC.toInCall.keep) (codeAny_func ?_)
  obtain ⟨t, derives, reads⟩ := walk cdv (rm.deeper _)
  have I := inv_start (CX := CX0) (P := P) (mg := mg) (base := base) (E := E) S rm.hd st0 ln rel inC
  refine wpAny_mono (derives.nox.run [] s1 (start N vs) H _ I reads) (fun fl s' hs => ?_) fun e s' hs => hs
  cases fl with
  | ret u =>
    obtain ⟨v, σ', H', J, rv, q⟩ := hs
    exact ⟨v, H', J.os, J.bare, J.base, J.hok, rv, q⟩
  | next =>
    obtain ⟨σ', H', J, q⟩ := hs
    exact ⟨V.non, H', J.os, J.bare, J.base, J.hok, rfl, q⟩
  | brk => obtain ⟨_, _, _, q⟩ := hs; exact q.elim
  | cont => obtain ⟨_, _, _, q⟩ := hs; exact q.elim

/-- what a law's own def has to show: at a list of at most 63 ints it hands back True, where no guard stands -/
def LawRun (P : Program) (w : World) (K : PySem.W.Frag) (mg : Str → Option Value) (fa : Addr) : Prop :=
  ∀ (base : Heap) (H : Hp) (s : Shared) (a : Addr) (ns : List Int), K.In base → base.Ns mainGlobals mg → SqL K H a (ns.map V.int) → ns.length ≤ 63 → Env0 P w K mg base callerA [] s H →
    codeAny (model P w) callerA (.call (.ref fa) ⟨[.ref a], []⟩) (CR CX0 [] P w H s (fun v _ => v = .bl true) fun _ _ _ => False) s
/-- the script stands alone in the heap that is told: in H only at a, if at all -/
structure Alone (H : Hp) (h : Heap) (K : PySem.W.Frag) (a : Addr) : Prop where
  only : Only H
  here : ∀ b, H b ≠ none → b = a
  off : H a ≠ none → K.lookup a = none
theorem Alone.none {H : Hp} {h : Heap} {K : PySem.W.Frag} {a b : Addr} {o p : Obj} (x : Alone H h K a) (e : h.get? b = some o) (ea : h.get? a = some p) (d : o.data ≠ p.data) : H b = none := by
  cases q : H b with
  | none => rfl
  | some u =>
    have z := x.here b (by rw [q]; exact fun z => nomatch z)
    subst z
    rw [ea] at e
    cases e
    exact absurd rfl d
theorem Alone.ns {H : Hp} {h : Heap} {K : PySem.W.Frag} {a b : Addr} {vs : Array Value} {m : Str → Option Value} (x : Alone H h K a) (ea : h.get? a = some { cls := .type "list", data := .seq vs }) (n : h.Ns b m) : (hidT h H).Ns b m := by
  obtain ⟨o, es, ep, e, d, r⟩ := n
  refine ⟨o, es, ep, hidT_get e (x.none e ea ?_), d, r⟩
  rw [d]
  intro z
  cases z
theorem Alone.kin {H : Hp} {h : Heap} {K : PySem.W.Frag} {a : Addr} (x : Alone H h K a) (X : K.In h) : K.In (hidT h H) := by
  intro b o e
  refine hidT_get (X b o e) ?_
  cases q : H b with
  | none => rfl
  | some u =>
    have z := x.here b (by rw [q]; exact fun z => nomatch z)
    subst z
    rw [x.off (by rw [q]; exact fun z => nomatch z)] at e
    cases e
theorem law_ends {fa a : Addr} {s : Shared} {vs : List Value} {ns : List Int} {mb : Str → Option Value} {H : Hp} (R : LawRun P w K mg fa) (al : Alone H s.heap K a)
    (X : K.In s.heap) (g : s.heap.Ns mainGlobals mg) (b : s.heap.Ns builtinsNs mb) (bb : ∀ x : Str, x ≠ "__name__" → mb x = bootBuiltins x) (lim : s.heap.NoLimit) (gs : s.gens = #[])
    (ea : s.heap.get? a = some { cls := .type "list", data := .seq vs.toArray }) (hS : SqL K H a (ns.map V.int)) (hl : ns.length ≤ 63) (ok : HOk P w H s.heap) :
    codeAny (model P w) callerA (.call (.ref fa) ⟨[.ref a], []⟩) (fun r s' => r = .ok (.ret (.bool true)) ∧ OldK s.heap s'.heap ∧ s'.os = s.os ∧ AllBare s'.gens) s := by
  have M : Mod K mg (hidT s.heap H) := by
    refine ⟨al.kin X, al.ns ea g, ⟨mb, al.ns ea b, bb⟩, ?_⟩
    obtain ⟨mc, l1, l2⟩ := lim
    exact ⟨mc, al.ns ea l1, l2⟩
  have st0 : Env0 P w K mg (hidT s.heap H) callerA [] s H := by
    refine ⟨rfl, M, fun b o e => of_hidT e, Nat.le_of_eq (hidT_size _ _), trivial, fun b hb => ?_, ok, AllBare.of_eq gs⟩
    cases (show b ∈ ([] : List Addr) from hb)
  refine codeAny_mono (R _ H s a ns M.kin M.glob hS hl st0) fun r s' q => ?_
  match r, q with
  | .error e, q => exact False.elim q
  | .ok (.next), q => exact False.elim q
  | .ok (.brk), q => exact False.elim q
  | .ok (.cont), q => exact False.elim q
  | .ok (.ret u), q =>
    obtain ⟨v, H', eos, bare, un, ok', rv, qv⟩ := q
    have qv' : v = .bl true := qv
    subst qv'
    obtain rfl : u = Value.bool true := rv
    refine And.intro rfl (And.intro (OldK.of_keep fun c o e => ?_) (And.intro eos bare))
    rcases al.only c with z | ⟨ob, xs, z⟩
    · exact un.keep c o e z (fun y => by cases (show c ∈ ([] : List Addr) from y)) (by simp)
    · have h1 := (ok c _ z).1
      have h2 := (ok' c _ (un.frzs c ob _ z)).1
      rw [e] at h1
      cases h1
      exact h2
theorem law_known {fa a : Addr} {s : Shared} {vs : List Value} {ns : List Int} {mb : Str → Option Value} (R : LawRun P w K mg fa)
    (X : K.In s.heap) (g : s.heap.Ns mainGlobals mg) (b : s.heap.Ns builtinsNs mb) (bb : ∀ x : Str, x ≠ "__name__" → mb x = bootBuiltins x) (lim : s.heap.NoLimit) (gs : s.gens = #[])
    (ea : s.heap.get? a = some { cls := .type "list", data := .seq vs.toArray }) (hi : IntsAre vs ns) (hl : ns.length ≤ 63) :
    codeAny (model P w) callerA (.call (.ref fa) ⟨[.ref a], []⟩) (fun r s' => r = .ok (.ret (.bool true)) ∧ OldK s.heap s'.heap ∧ s'.os = s.os ∧ AllBare s'.gens) s := by
  have rel := vals_ints hi
  have ll := hi.length
  have hl2 : ns.length ≤ sizeLine := Nat.le_trans hl (by decide)
  cases lk : K.lookup a with
  | some o =>
    have e := X a o lk
    rw [ea] at e
    cases e
    refine law_ends (H := fun _ => Option.none) R ⟨fun _ => .inl rfl, fun _ z => absurd rfl z, fun z => absurd rfl z⟩ X g b bb lim gs ea ?_ hl (fun _ _ z => by cases (show (Option.none : Option HO) = some _ from z))
    refine .inr ⟨_, vs.toArray, _, lk, rfl, rfl, rfl, ?_, by simpa using rel⟩
    rw [List.size_toArray, ll]
    exact hl2
  | none =>
    let o0 : HO := .frz { cls := .type "list", data := .seq vs.toArray } (.lst (ns.map V.int))
    have at0 : ∀ c u, (fun c => if c = a then some o0 else Option.none) c = some u → c = a ∧ u = o0 := fun c u z => by
      by_cases hc : c = a
      · have z' := (if_pos hc).symm.trans z
        exact ⟨hc, (Option.some.inj z').symm⟩
      · have z' := (if_neg hc).symm.trans z
        cases z'
    refine law_ends (H := fun c => if c = a then some o0 else Option.none) R ⟨fun c => ?_, fun c z => ?_, fun _ => lk⟩ X g b bb lim gs ea (.inl (.inr ⟨_, if_pos rfl⟩)) hl (fun c u z => ?_)
    · by_cases hc : c = a
      · exact .inr ⟨_, _, if_pos hc⟩
      · exact .inl (if_neg hc)
    · by_cases hc : c = a
      · exact hc
      · exact absurd (if_neg hc) z
    · obtain ⟨hc, hu⟩ := at0 c u z
      subst hc
      subst hu
      exact ⟨ea, by rw [List.length_map]; exact hl2, vs, _, rel, ea⟩
/-- the end of a law's row -/
theorem walk_known {l : PySem.W.OpenLaw} {q : Program} {loose : List Str} {XP : (Str → Option Value) → Heap → Prop} {YP : World → Heap → Prop} {d : DefRec} {K : Params → PySem.W.Frag} (hn : l.most = some 63) (hdf : d.params.defaults = [])
    (hY : ∀ (w : World) (h : Heap), YP w h → (K w.params).In h)
    (R : ∀ (w : World) (mg : Str → Option Value) (fa : Addr) (h : Heap), (K w.params).In h → h.Ns mainGlobals mg → mg d.name = some (.ref fa) → LawRun l.prog w (K w.params) mg fa) :
    PySem.W.WalkO q loose XP YP l.row.toRowW d [] (fun f vs => PySem.call f vs) := by
  refine Att.attach_call hn hdf fun w s₀ s₁ mg mb fa o pm cd doc a vs ns G Y ho hd hcd hmg hobj hints hlen hg => ?_
  have KX := hY w _ Y
  exact law_known (R w mg fa _ KX G.T.g hmg) KX G.T.g G.T.b G.T.builtins G.T.nolimit hg hobj hints hlen
end

/-! ### data, and its repr -/
mutual
/-- v is the data d; its lists and dicts are none of the machine's two -/
inductive Dq (K : PySem.W.Frag) (H : Hp) (m l : Addr) : V → PyData → Prop
  | non : Dq K H m l .non .none
  | bl (b : Bool) : Dq K H m l (.bl b) (.bool b)
  | int (i : Int) : Dq K H m l (.int i) (.int i)
  | str (x : Str) : Dq K H m l (.str x) (.str x)
  | lst {a : Addr} {xs : List V} {ds : List PyData} : H a = some (.lst xs) → a ≠ m → a ≠ l → DqAll K H m l xs ds → Dq K H m l (.ref a) (.list ds)
  | tup {a : Addr} {xs : List V} {ds : List PyData} : SqT K H a xs → DqAll K H m l xs ds → Dq K H m l (.ref a) (.tuple ds)
  | dct {a : Addr} : H a = some (.dK []) → a ≠ m → a ≠ l → Dq K H m l (.ref a) (.dict [])
inductive DqAll (K : PySem.W.Frag) (H : Hp) (m l : Addr) : List V → List PyData → Prop
  | nil : DqAll K H m l [] []
  | cons {v : V} {vs : List V} {d : PyData} {ds : List PyData} : Dq K H m l v d → DqAll K H m l vs ds → DqAll K H m l (v :: vs) (d :: ds)
end
/-- from one heap to another one: what is not the machine's stands, and is not the machine's then -/
structure Kept (m l l' : Addr) (H H' : Hp) : Prop where
  keep : ∀ b o, H b = some o → b ≠ m → b ≠ l → H' b = some o
  ne : ∀ b o, H b = some o → b ≠ l → b ≠ l'
  am : ∃ z, H m = some (.dK z)
  al : ∃ z, H l = some (.lst z)
theorem Kept.tup {K : PySem.W.Frag} {m l l' a : Addr} {H H' : Hp} {xs : List V} (k : Kept m l l' H H') (h : SqT K H a xs) : SqT K H' a xs := by
  obtain ⟨z1, e1⟩ := k.am
  obtain ⟨z2, e2⟩ := k.al
  rcases h with (h | ⟨o, h⟩) | h
  · exact .inl (.inl (k.keep a _ h (ne_of h e1 (by intro z; cases z)) (ne_of h e2 (by intro z; cases z))))
  · exact .inl (.inr ⟨o, k.keep a _ h (ne_of h e1 (by intro z; cases z)) (ne_of h e2 (by intro z; cases z))⟩)
  · exact .inr h
mutual
theorem Dq.step {K : PySem.W.Frag} {m l l' : Addr} {H H' : Hp} (k : Kept m l l' H H') : ∀ (d : PyData) (v : V), Dq K H m l v d → Dq K H' m l' v d
  | .none, _, h => by cases h; exact .non
  | .bool b, _, h => by cases h; exact .bl b
  | .int i, _, h => by cases h; exact .int i
  | .str x, _, h => by cases h; exact .str x
  | .list ds, _, h => by
    cases h with
    | lst e n1 n2 t => exact .lst (k.keep _ _ e n1 n2) n1 (k.ne _ _ e n2) (DqAll.step k ds _ t)
  | .tuple ds, _, h => by
    cases h with
    | tup e t => exact .tup (k.tup e) (DqAll.step k ds _ t)
  | .dict _, _, h => by
    cases h with
    | dct e n1 n2 => exact .dct (k.keep _ _ e n1 n2) n1 (k.ne _ _ e n2)
theorem DqAll.step {K : PySem.W.Frag} {m l l' : Addr} {H H' : Hp} (k : Kept m l l' H H') : ∀ (ds : List PyData) (vs : List V), DqAll K H m l vs ds → DqAll K H' m l' vs ds
  | [], _, h => by cases h; exact .nil
  | d :: ds, _, h => by
    cases h with
    | cons h1 h2 => exact .cons (Dq.step k d _ h1) (DqAll.step k ds _ h2)
end
section
variable {X : Cx} {pins : List (Addr × Obj)} {σ : L2.St} {H : Hp} {s : Shared} {m l : Addr}
mutual
theorem Dq.reads (I : Inv X pins σ H s) (hs : H sysModules = none) : ∀ (d : PyData) (v : V) (u : Value), Dq X.K H m l v d → RelV v u → ∃ as, Reads s.heap u d as ∧ sysModules ∉ as
  | .none, _, _, h, r => by cases h; cases r; exact ⟨_, .none, by simp⟩
  | .bool b, _, _, h, r => by cases h; cases r; exact ⟨_, .bool b, by simp⟩
  | .int i, _, _, h, r => by cases h; obtain ⟨t, rfl⟩ := r; exact ⟨_, .int i t, by simp⟩
  | .str x, _, _, h, r => by cases h; obtain ⟨t, rfl⟩ := r; exact ⟨_, .str x t, by simp⟩
  | .list ds, _, _, h, r => by
    cases h with
    | lst e n1 n2 t =>
      cases r
      obtain ⟨its, rv, ⟨o, n, ho, hc, _, hd⟩, _⟩ := I.list (SqL.of e)
      obtain ⟨as, q1, q2⟩ := DqAll.reads I hs ds _ its t rv
      refine ⟨_, Reads.list ho hc hd q1, fun z => ?_⟩
      rcases List.mem_cons.mp z with z | z
      · rw [← z, hs] at e; cases e
      · exact q2 z
  | .tuple ds, _, _, h, r => by
    cases h with
    | tup e t =>
      cases r
      obtain ⟨its, rv, ⟨o, ho, hc, n, hd⟩, _⟩ := I.tuple e
      obtain ⟨as, q1, q2⟩ := DqAll.reads I hs ds _ its t rv
      exact ⟨_, Reads.tuple ho hc hd q1, q2⟩
  | .dict _, _, _, h, r => by
    cases h with
    | dct e n1 n2 =>
      cases r
      obtain ⟨z, hd, vs, rel, dd⟩ := dk_of I.hok e
      cases rel
      obtain ⟨o, es, ep, ho, hc, hdat, hlay⟩ := id dd
      have e0 : es.toList = [] := by
        have p := hlay.2.1
        cases q : es.toList with
        | nil => rfl
        | cons z zs => rw [q] at p; cases p
      refine ⟨_, Reads.dict (as := []) (bs := []) ho hc.1 hdat ?_ ?_, ?_⟩
      · rw [e0]; exact .nil
      · rw [e0]; exact .nil
      · intro z
        have z2 := List.mem_singleton.mp (show sysModules ∈ [_] from z)
        rw [← z2, hs] at e
        cases e
theorem DqAll.reads (I : Inv X pins σ H s) (hs : H sysModules = none) : ∀ (ds : List PyData) (vs : List V) (us : List Value), DqAll X.K H m l vs ds → Vals vs us → ∃ as, ReadsAll s.heap us ds as ∧ sysModules ∉ as
  | [], _, _, h, r => by cases h; cases r; exact ⟨_, .nil, by simp⟩
  | d :: ds, _, _, h, r => by
    cases h with
    | cons h1 h2 =>
      cases r with
      | cons r1 r2 =>
        obtain ⟨as, q1, p1⟩ := Dq.reads I hs d _ _ h1 r1
        obtain ⟨bs, q2, p2⟩ := DqAll.reads I hs ds _ _ h2 r2
        exact ⟨_, .cons q1 q2, fun z => (List.mem_append.mp z).elim p1 p2⟩
end
theorem no_sys {o : Obj} (hk : X.K.lookup sysModules = some o) (I : Inv X pins σ H s) : H sysModules = none := (I.bs _ _ (I.ok.mod.kin _ _ hk)).2
end
/-- repr(x) -/
theorem call_repr {X : Cx} {o : Obj} (hg : X.A.guards = some []) (hu : X.A.units + 64 < cLine) (hk : X.K.lookup sysModules = some o) :
    CallR X (.builtin "repr") (fun xs H Q => ∃ x d m l, xs = [x] ∧ Dq X.K H m l x d ∧ d.showable = true ∧ d.depth ≤ 60 ∧ d.shown.length ≤ sizeLine ∧ Q (.str d.shown) H) := by
  intro pins s σ H xs us Q I r h
  obtain ⟨x, d, m, l, rfl, hd, hs, hdep, hlen, q⟩ := h
  obtain ⟨u, rfl, rx⟩ := vals1 r
  obtain ⟨as, rd, na⟩ := Dq.reads I (no_sys hk I) d x u hd rx
  cases rd with
  | none => exact PySem.P.repr_of_none ⟨V.str _, H, I.tok _, ⟨_, rfl⟩, by simpa only [PyData.shown] using q⟩
  | bool b => exact PySem.P.repr_of_bool ⟨V.str _, H, I.tok _, ⟨_, rfl⟩, by simpa only [PyData.shown] using q⟩
  | int i t => exact PySem.P.repr_of_int (by simpa [PyData.showable] using hs) ⟨V.str _, H, I.tok _, ⟨_, rfl⟩, by simpa only [PyData.shown] using q⟩
  | str y t => exact PySem.P.repr_of_str ⟨V.str _, H, I.tok _, ⟨_, rfl⟩, by simpa only [PyData.shown] using q⟩ (by simpa only [PyData.shown] using hlen)
  | list h1 h2 h3 h4 => exact repr_of_reads' (.list h1 h2 h3 h4) hs (fun _ => na) hg (by omega) (fun _ _ e => e) (fun h' u' tk k => ⟨V.str _, H, I.kept k, ⟨_, rfl⟩, q⟩) hlen
  | tuple h1 h2 h3 h4 => exact repr_of_reads' (.tuple h1 h2 h3 h4) hs (fun _ => na) hg (by omega) (fun _ _ e => e) (fun h' u' tk k => ⟨V.str _, H, I.kept k, ⟨_, rfl⟩, q⟩) hlen
  | dict h1 h2 h3 h4 h5 => exact repr_of_reads' (.dict h1 h2 h3 h4 h5) hs (fun _ => na) hg (by omega) (fun _ _ e => e) (fun h' u' tk k => ⟨V.str _, H, I.kept k, ⟨_, rfl⟩, q⟩) hlen

/-! ### the same, of data that is a dict or bears none -/
def plainD : PyData → Bool
  | .dict [] => true
  | d => !d.hasDict
section
variable {X : Cx} {pins : List (Addr × Obj)} {σ : L2.St} {H : Hp} {s : Shared} {m l : Addr}
mutual
theorem Dq.reads0 (I : Inv X pins σ H s) : ∀ (d : PyData) (v : V) (u : Value), Dq X.K H m l v d → RelV v u → ∃ as, Reads s.heap u d as ∧ (d = .dict [] → sysModules ∉ as)
  | .none, _, _, h, r => by cases h; cases r; exact ⟨_, .none, by simp⟩
  | .bool b, _, _, h, r => by cases h; cases r; exact ⟨_, .bool b, by simp⟩
  | .int i, _, _, h, r => by cases h; obtain ⟨t, rfl⟩ := r; exact ⟨_, .int i t, by simp⟩
  | .str x, _, _, h, r => by cases h; obtain ⟨t, rfl⟩ := r; exact ⟨_, .str x t, by simp⟩
  | .list ds, _, _, h, r => by
    cases h with
    | lst e n1 n2 t =>
      cases r
      obtain ⟨its, rv, ⟨o, n, ho, hc, _, hd⟩, _⟩ := I.list (SqL.of e)
      obtain ⟨as, q1⟩ := DqAll.reads0 I ds _ its t rv
      exact ⟨_, Reads.list ho hc hd q1, fun z => nomatch z⟩
  | .tuple ds, _, _, h, r => by
    cases h with
    | tup e t =>
      cases r
      obtain ⟨its, rv, ⟨o, ho, hc, n, hd⟩, _⟩ := I.tuple e
      obtain ⟨as, q1⟩ := DqAll.reads0 I ds _ its t rv
      exact ⟨_, Reads.tuple ho hc hd q1, fun z => nomatch z⟩
  | .dict _, _, _, h, r => by
    cases h with
    | dct e n1 n2 =>
      cases r
      obtain ⟨z, hd, vs, rel, dd⟩ := dk_of I.hok e
      cases rel
      obtain ⟨o, es, ep, ho, hc, hdat, hlay⟩ := id dd
      have e0 : es.toList = [] := by
        have p := hlay.2.1
        cases q : es.toList with
        | nil => rfl
        | cons z zs => rw [q] at p; cases p
      refine ⟨_, Reads.dict (as := []) (bs := []) ho hc.1 hdat ?_ ?_, fun _ z => ?_⟩
      · rw [e0]; exact .nil
      · rw [e0]; exact .nil
      · have z2 := List.mem_singleton.mp (show sysModules ∈ [_] from z)
        rw [← z2] at hd
        exact absurd hd (by decide)
theorem DqAll.reads0 (I : Inv X pins σ H s) : ∀ (ds : List PyData) (vs : List V) (us : List Value), DqAll X.K H m l vs ds → Vals vs us → ∃ as, ReadsAll s.heap us ds as
  | [], _, _, h, r => by cases h; cases r; exact ⟨_, .nil⟩
  | d :: ds, _, _, h, r => by
    cases h with
    | cons h1 h2 =>
      cases r with
      | cons r1 r2 =>
        obtain ⟨as, q1, p1⟩ := Dq.reads0 I d _ _ h1 r1
        obtain ⟨bs, q2⟩ := DqAll.reads0 I ds _ _ h2 r2
        exact ⟨_, .cons q1 q2⟩
end
end
theorem plain_off {d : PyData} {as : List Addr} (p : plainD d = true) (h : d = .dict [] → sysModules ∉ as) : d.hasDict = true → sysModules ∉ as := fun z => by
  cases d with
  | dict kvs =>
    cases kvs with
    | nil => exact h rfl
    | cons a b =>
      have p' : (!(PyData.dict (a :: b)).hasDict) = true := p
      rw [z] at p'
      cases p'
  | _ =>
    have p' := p
    simp only [plainD, Bool.not_eq_true'] at p'
    rw [z] at p'
    cases p'
theorem call_repr0 {X : Cx} (hg : X.A.guards = some []) (hu : X.A.units + 64 < cLine) :
    CallR X (.builtin "repr") (fun xs H Q => ∃ x d m l, xs = [x] ∧ Dq X.K H m l x d ∧ plainD d = true ∧ d.showable = true ∧ d.depth ≤ 60 ∧ d.shown.length ≤ sizeLine ∧ Q (.str d.shown) H) := by
  intro pins s σ H xs us Q I r h
  obtain ⟨x, d, m, l, rfl, hd, hp, hs, hdep, hlen, q⟩ := h
  obtain ⟨u, rfl, rx⟩ := vals1 r
  obtain ⟨as, rd, na0⟩ := Dq.reads0 I d x u hd rx
  have na := plain_off hp na0
  cases rd with
  | none => exact PySem.P.repr_of_none ⟨V.str _, H, I.tok _, ⟨_, rfl⟩, by simpa only [PyData.shown] using q⟩
  | bool b => exact PySem.P.repr_of_bool ⟨V.str _, H, I.tok _, ⟨_, rfl⟩, by simpa only [PyData.shown] using q⟩
  | int i t => exact PySem.P.repr_of_int (by simpa [PyData.showable] using hs) ⟨V.str _, H, I.tok _, ⟨_, rfl⟩, by simpa only [PyData.shown] using q⟩
  | str y t => exact PySem.P.repr_of_str ⟨V.str _, H, I.tok _, ⟨_, rfl⟩, by simpa only [PyData.shown] using q⟩ (by simpa only [PyData.shown] using hlen)
  | list h1 h2 h3 h4 => exact repr_of_reads' (.list h1 h2 h3 h4) hs na hg (by omega) (fun _ _ e => e) (fun h' u' tk k => ⟨V.str _, H, I.kept k, ⟨_, rfl⟩, q⟩) hlen
  | tuple h1 h2 h3 h4 => exact repr_of_reads' (.tuple h1 h2 h3 h4) hs na hg (by omega) (fun _ _ e => e) (fun h' u' tk k => ⟨V.str _, H, I.kept k, ⟨_, rfl⟩, q⟩) hlen
  | dict h1 h2 h3 h4 h5 => exact repr_of_reads' (.dict h1 h2 h3 h4 h5) hs na hg (by omega) (fun _ _ e => e) (fun h' u' tk k => ⟨V.str _, H, I.kept k, ⟨_, rfl⟩, q⟩) hlen
end Ms
namespace Ms
open PySem PySem.Spec PyProof.Rows L2
/-! ### repr of any such data: no dict of it is the interpreter's own, and that is all that is asked -/
section
variable {X : Cx} {pins : List (Addr × Obj)} {σ : L2.St} {H : Hp} {s : Shared} {m l : Addr}
mutual
theorem Dq.shows (I : Inv X pins σ H s) : ∀ (d : PyData) (v : V) (u : Value), Dq X.K H m l v d → RelV v u → d.showable = true → d.shown.length ≤ sizeLine →
    ∃ as bs, Reads s.heap u d as ∧ ReadAtMost s.heap d.depth bs ∧ ReprK X.prog X.w bs s.heap d.depth u d.shown
  | .none, _, _, h, r, hs, hz => by
    cases h; cases r
    obtain ⟨bs, p, q⟩ := ReprK.of_reads (prog := X.prog) (w := X.w) (h₀ := s.heap) .none hs (fun z => by simp [PyData.hasDict] at z) hz
    exact ⟨_, bs, .none, p, q⟩
  | .bool b, _, _, h, r, hs, hz => by
    cases h; cases r
    obtain ⟨bs, p, q⟩ := ReprK.of_reads (prog := X.prog) (w := X.w) (h₀ := s.heap) (.bool b) hs (fun z => by simp [PyData.hasDict] at z) hz
    exact ⟨_, bs, .bool b, p, q⟩
  | .int i, _, _, h, r, hs, hz => by
    cases h; obtain ⟨t, rfl⟩ := r
    obtain ⟨bs, p, q⟩ := ReprK.of_reads (prog := X.prog) (w := X.w) (h₀ := s.heap) (.int i t) hs (fun z => by simp [PyData.hasDict] at z) hz
    exact ⟨_, bs, .int i t, p, q⟩
  | .str x, _, _, h, r, hs, hz => by
    cases h; obtain ⟨t, rfl⟩ := r
    obtain ⟨bs, p, q⟩ := ReprK.of_reads (prog := X.prog) (w := X.w) (h₀ := s.heap) (.str x t) hs (fun z => by simp [PyData.hasDict] at z) hz
    exact ⟨_, bs, .str x t, p, q⟩
  | .list ds, _, _, h, r, hs, hz => by
    cases h with
    | lst e n1 n2 t =>
      cases r
      obtain ⟨its, rv, ⟨o, n, ho, hc, _, hd⟩, _⟩ := I.list (SqL.of e)
      have fits : (listText (PyData.shownAll ds)).length ≤ sizeLine := by simpa only [PyData.shown] using hz
      obtain ⟨as, bs, r1, p, q⟩ := DqAll.shows I ds _ its t rv (by simpa [PyData.showable] using hs) fun x hx => Nat.le_trans (listText_mem_le hx) fits
      have rd := Reads.list ho hc hd r1
      have off := not_mem_of_deeper rd (by simp only [PyData.depth]; omega) p
      refine ⟨_, _, rd, ReadAtMost.cons rd (by simp only [PyData.depth]; omega) p, ?_⟩
      simp only [PyData.depth, PyData.shown]
      cases its with
      | nil =>
        cases r1
        simp only [PyData.shownAll, listText_nil]
        exact ReprK.listEmpty ho hc hd
      | cons y ys => exact ReprK.list ho hc hd off (by simpa using q.length_eq) fun i z e => q.item i z (by simpa using e)
  | .tuple ds, _, _, h, r, hs, hz => by
    cases h with
    | tup e t =>
      cases r
      obtain ⟨its, rv, ⟨o, ho, hc, n, hd⟩, _⟩ := I.tuple e
      have fits : (tupleText (PyData.shownAll ds)).length ≤ sizeLine := by simpa only [PyData.shown] using hz
      obtain ⟨as, bs, r1, p, q⟩ := DqAll.shows I ds _ its t rv (by simpa [PyData.showable] using hs) fun x hx => Nat.le_trans (tupleText_mem_le hx) fits
      have rd := Reads.tuple ho hc hd r1
      have off := not_mem_of_deeper rd (by simp only [PyData.depth]; omega) p
      refine ⟨_, _, rd, ReadAtMost.cons rd (by simp only [PyData.depth]; omega) p, ?_⟩
      simp only [PyData.depth, PyData.shown]
      exact ReprK.tuple ho hc hd off q
  | .dict kvs, v, u, h, r, hs, hz => by
    obtain ⟨as, rd, na⟩ := Dq.reads0 I (.dict kvs) v u h r
    cases h with
    | dct e n1 n2 =>
      obtain ⟨bs, p, q⟩ := ReprK.of_reads (prog := X.prog) (w := X.w) rd hs (fun _ => na rfl) hz
      exact ⟨as, bs, rd, p, q⟩
theorem DqAll.shows (I : Inv X pins σ H s) : ∀ (ds : List PyData) (vs : List V) (us : List Value), DqAll X.K H m l vs ds → Vals vs us → PyData.showableAll ds = true → (∀ t ∈ PyData.shownAll ds, t.length ≤ sizeLine) →
    ∃ as bs, ReadsAll s.heap us ds as ∧ ReadAtMost s.heap (PyData.depthAll ds) bs ∧ ReprAllK X.prog X.w bs s.heap (PyData.depthAll ds) us (PyData.shownAll ds)
  | [], _, _, h, r, _, _ => by
    cases h; cases r
    exact ⟨_, [], .nil, (fun _ z => nomatch z), by simp only [PyData.shownAll]; exact .nil⟩
  | d :: ds, _, _, h, r, hs, hz => by
    cases h with
    | cons h1 h2 =>
      cases r with
      | cons r1 r2 =>
        have both : d.showable = true ∧ PyData.showableAll ds = true := by simpa [PyData.showableAll] using hs
        obtain ⟨as1, bs1, rd1, p1, q1⟩ := Dq.shows I d _ _ h1 r1 both.1 (hz _ (by simp only [PyData.shownAll]; exact List.mem_cons_self ..))
        obtain ⟨as2, bs2, rd2, p2, q2⟩ := DqAll.shows I ds _ _ h2 r2 both.2 (fun x hx => hz x (by simp only [PyData.shownAll]; exact List.mem_cons_of_mem _ hx))
        refine ⟨_, bs1 ++ bs2, .cons rd1 rd2, ?_, ?_⟩
        · simp only [PyData.depthAll]
          exact (p1.mono (Nat.le_max_left _ _)).append (p2.mono (Nat.le_max_right _ _))
        · simp only [PyData.depthAll, PyData.shownAll]
          exact .cons ((q1.more fun b hb => List.mem_append_left _ hb).level_le (Nat.le_max_left _ _)) (q2.more_le (fun b hb => List.mem_append_right _ hb) (Nat.le_max_right _ _))
end
end
/-- repr(x) -/
theorem call_reprD {X : Cx} (hg : X.A.guards = some []) (hu : X.A.units + 64 < cLine) :
    CallR X (.builtin "repr") (fun xs H Q => ∃ x d m l, xs = [x] ∧ Dq X.K H m l x d ∧ d.showable = true ∧ d.depth ≤ 60 ∧ d.shown.length ≤ sizeLine ∧ Q (.str d.shown) H) := by
  intro pins s σ H xs us Q I r h
  obtain ⟨x, d, m, l, rfl, hd, hs, hdep, hlen, q⟩ := h
  cases d with
  | list ds =>
    obtain ⟨u, rfl, rx⟩ := vals1 r
    cases hd with
    | lst e n1 n2 t =>
      cases rx
      obtain ⟨its, rv, ⟨o, n, ho, hc, _, hdt⟩, _⟩ := I.list (SqL.of e)
      have fits : (listText (PyData.shownAll ds)).length ≤ sizeLine := by simpa only [PyData.shown] using hlen
      obtain ⟨as, bs, r1, p, k⟩ := DqAll.shows I ds _ its t rv (by simpa [PyData.showable] using hs) fun y hy => Nat.le_trans (listText_mem_le hy) fits
      have rd := Reads.list ho hc hdt r1
      have off := not_mem_of_deeper rd (by simp only [PyData.depth]; omega) p
      simp only [PyData.depth] at hdep
      refine call_repr_slot (by omega) ⟨o, ho, hc⟩ F.slot_list_repr.toG ?_
      have fin : ∀ (h' : Heap) (u : Tok) (tk : Nat), (∀ b o, s.heap.get? b = some o → h'.get? b = some o) → ∃ x t, Value.str (PyData.list ds).shown u = Value.str x t ∧ EP X pins σ Q (Value.str (PyData.list ds).shown u) { s with heap := h', toks := tk } := fun h' u tk k => ⟨_, _, rfl, V.str _, H, I.kept k, ⟨_, rfl⟩, q⟩
      simp only [PyData.shown] at fin
      cases its with
      | nil =>
        cases r1
        simp only [PyData.shownAll, listText_nil] at fin
        exact call_list_repr_empty ⟨o, ho, hc⟩ ho hdt (fin s.heap _ _ fun _ _ e => e)
      | cons y ys =>
        exact call_list_reprK ho hc hdt off (by simpa using k.length_eq) (fun i z e => k.item i z (by simpa using e)) hg (fun b _ => Clear.nil b) (by show X.A.units + 1 + _ < cLine; omega) (fun _ _ e => e) (fun h' u tk k => fin h' u tk k) fits
  | tuple ds =>
    obtain ⟨u, rfl, rx⟩ := vals1 r
    cases hd with
    | tup e t =>
      cases rx
      obtain ⟨its, rv, ⟨o, ho, hc, n, hdt⟩, _⟩ := I.tuple e
      have fits : (tupleText (PyData.shownAll ds)).length ≤ sizeLine := by simpa only [PyData.shown] using hlen
      obtain ⟨as, bs, r1, p, k⟩ := DqAll.shows I ds _ its t rv (by simpa [PyData.showable] using hs) fun y hy => Nat.le_trans (tupleText_mem_le hy) fits
      have rd := Reads.tuple ho hc hdt r1
      have off := not_mem_of_deeper rd (by simp only [PyData.depth]; omega) p
      simp only [PyData.depth] at hdep
      refine call_repr_slot (by omega) ⟨o, ho, hc⟩ F.slot_tuple_repr ?_
      have fin : ∀ (h' : Heap) (u : Tok) (tk : Nat), (∀ b o, s.heap.get? b = some o → h'.get? b = some o) → ∃ x t, Value.str (PyData.tuple ds).shown u = Value.str x t ∧ EP X pins σ Q (Value.str (PyData.tuple ds).shown u) { s with heap := h', toks := tk } := fun h' u tk k => ⟨_, _, rfl, V.str _, H, I.kept k, ⟨_, rfl⟩, q⟩
      simp only [PyData.shown] at fin
      exact call_tuple_reprK ho hc hdt off k hg (fun b _ => Clear.nil b) (by show X.A.units + 1 + _ < cLine; omega) (fun _ _ e => e) (fun h' u tk k => fin h' u tk k) fits
  | dict kvs =>
    cases hd with
    | dct e n1 n2 => exact call_repr0 hg hu pins s σ H [.ref _] us Q I r ⟨_, _, m, l, rfl, .dct e n1 n2, rfl, hs, hdep, hlen, q⟩
  | none => exact call_repr0 hg hu pins s σ H [x] us Q I r ⟨x, _, m, l, rfl, hd, by simp [plainD, PyData.hasDict], hs, hdep, hlen, q⟩
  | bool b => exact call_repr0 hg hu pins s σ H [x] us Q I r ⟨x, _, m, l, rfl, hd, by simp [plainD, PyData.hasDict], hs, hdep, hlen, q⟩
  | int i => exact call_repr0 hg hu pins s σ H [x] us Q I r ⟨x, _, m, l, rfl, hd, by simp [plainD, PyData.hasDict], hs, hdep, hlen, q⟩
  | str y => exact call_repr0 hg hu pins s σ H [x] us Q I r ⟨x, _, m, l, rfl, hd, by simp [plainD, PyData.hasDict], hs, hdep, hlen, q⟩
end Ms
namespace Ms
open PySem PySem.Spec PyProof.Rows L2
/-! ### data of bounded size -/
mutual
/-- ints within B, signs that are code points, dicts that are empty -/
def okD (B : Nat) : PyData → Bool
  | .none | .bool _ => true
  | .int i => decide (i.natAbs ≤ B)
  | .str x => x.cps.toList.all fun c => decide (c < 0x110000)
  | .list xs | .tuple xs => okAll B xs
  | .dict kvs => kvs.isEmpty
def okAll (B : Nat) : List PyData → Bool
  | [] => true
  | x :: xs => okD B x && okAll B xs
end
theorem okAll_iff {B : Nat} : ∀ {xs : List PyData}, okAll B xs = true ↔ ∀ x ∈ xs, okD B x = true
  | [] => by simp [okAll]
  | x :: xs => by simp [okAll, okAll_iff (xs := xs)]
mutual
theorem okD_mono {B C : Nat} (h : B ≤ C) : ∀ d : PyData, okD B d = true → okD C d = true
  | .none, _ => rfl
  | .bool _, _ => rfl
  | .int i, e => by simp only [okD, decide_eq_true_eq] at e ⊢; omega
  | .str x, e => by simpa only [okD] using e
  | .list xs, e => by simp only [okD] at e ⊢; exact okAll_mono h xs e
  | .tuple xs, e => by simp only [okD] at e ⊢; exact okAll_mono h xs e
  | .dict kvs, e => by simpa only [okD] using e
theorem okAll_mono {B C : Nat} (h : B ≤ C) : ∀ xs : List PyData, okAll B xs = true → okAll C xs = true
  | [], _ => rfl
  | x :: xs, e => by
    simp only [okAll, Bool.and_eq_true] at e ⊢
    exact ⟨okD_mono h x e.1, okAll_mono h xs e.2⟩
end
theorem log_small {i : Int} (h : i.natAbs ≤ 10 ^ 31) : i.natAbs.log2 < 1920 := by
  by_cases z : i.natAbs = 0
  · rw [z]; decide
  · have h1 : i.natAbs < 2 ^ 103 := by
      have e : (10 : Nat) ^ 31 < 2 ^ 103 := by decide
      omega
    have := (Nat.log2_lt z).mpr h1
    omega
theorem int_short {i : Int} (h : i.natAbs ≤ 10 ^ 31) : (PyData.shown (.int i)).length ≤ 64 := by
  have e := int_text_length_le10 (k := 32) (by decide) (show i.natAbs < 10 ^ 32 by
    have z : (10 : Nat) ^ 31 < 10 ^ 32 := by decide
    omega)
  show (Str.ofString (toString i)).length ≤ 64
  rw [PySem.ofString_length]
  omega
mutual
theorem ok_shows : ∀ d : PyData, okD (10 ^ 31) d = true → d.showable = true ∧ d.leavesShort 64 = true
  | .none, _ => ⟨rfl, rfl⟩
  | .bool _, _ => ⟨rfl, rfl⟩
  | .int i, e => by
    simp only [okD, decide_eq_true_eq] at e
    simp only [PyData.showable, PyData.leavesShort, decide_eq_true_eq]
    exact ⟨log_small e, int_short e⟩
  | .str x, e => by
    simp only [okD, List.all_eq_true, decide_eq_true_eq] at e
    refine ⟨rfl, ?_⟩
    simp only [PyData.leavesShort, List.all_eq_true, decide_eq_true_eq]
    intro c hc
    have := e c hc
    have z : (0x110000 : Nat) < 16 ^ 8 := by decide
    omega
  | .list xs, e => by
    simp only [okD] at e
    simp only [PyData.showable, PyData.leavesShort]
    exact okAll_shows xs e
  | .tuple xs, e => by
    simp only [okD] at e
    simp only [PyData.showable, PyData.leavesShort]
    exact okAll_shows xs e
  | .dict [], _ => ⟨rfl, rfl⟩
  | .dict (a :: b), e => by simp [okD] at e
theorem okAll_shows : ∀ xs : List PyData, okAll (10 ^ 31) xs = true → PyData.showableAll xs = true ∧ PyData.leavesShortAll 64 xs = true
  | [], _ => ⟨rfl, rfl⟩
  | x :: xs, e => by
    simp only [okAll, Bool.and_eq_true] at e
    obtain ⟨h1, h2⟩ := ok_shows x e.1
    obtain ⟨h3, h4⟩ := okAll_shows xs e.2
    simp only [PyData.showableAll, PyData.leavesShortAll, h1, h2, h3, h4, Bool.and_self, and_self]
end
/-- data within B, of weight at most a, of depth at most b -/
structure Gd (B a b : Nat) (d : PyData) : Prop where
  ok : okD B d = true
  wt : d.weight ≤ a
  dp : d.depth ≤ b
theorem Gd.mono {B a b B' a' b' : Nat} {d : PyData} (g : Gd B a b d) (h1 : B ≤ B') (h2 : a ≤ a') (h3 : b ≤ b') : Gd B' a' b' d := ⟨okD_mono h1 d g.ok, Nat.le_trans g.wt h2, Nat.le_trans g.dp h3⟩
theorem Gd.shown {a b : Nat} {d : PyData} (g : Gd (10 ^ 31) a b d) (ha : a ≤ 200000) : d.showable = true ∧ d.shown.length ≤ sizeLine := by
  obtain ⟨h1, h2⟩ := ok_shows d g.ok
  refine ⟨h1, ?_⟩
  have h := PyData.shown_le 64 (by decide) d h2
  have w := g.wt
  rw [sizeLine_eq]
  omega
end Ms
namespace Ms
open PySem PySem.Spec PyProof.Rows L2
/-! ### the machine of draws: a dict with the cells, what is left of the great ones, and a count -/
def kvM (c l : Addr) (n : Int) : List (Key × V) := [(.inr "cells", .ref c), (.inr "left", .ref l), (.inr "at", .int n)]
structure Mch (H : Hp) (m l : Addr) (n : Nat) : Prop where
  ex : ∃ (c : Addr) (cs ls : List Int) (z : Int), H m = some (.dK (kvM c l z)) ∧ H c = some (.lst (cs.map V.int)) ∧ H l = some (.lst (ls.map V.int)) ∧ c ≠ l ∧ 0 ≤ z ∧ z ≤ (n : Int) ∧ cs.length ≤ 63 ∧ ls.length ≤ 63
/-- behind a step: all but the machine's own dict and list stand as before -/
structure Fr (m l l' : Addr) (H H' : Hp) : Prop where
  keep : ∀ b o, H b = some o → b ≠ m → b ≠ l → H' b = some o
  new : l' = l ∨ H l' = none
  dom : ∀ b, H b ≠ none → H' b ≠ none
theorem Mch.mm {H : Hp} {m l : Addr} {n : Nat} (M : Mch H m l n) : H m ≠ none := by
  obtain ⟨c, cs, ls, z, h, _⟩ := M.ex
  rw [h]; exact fun z => nomatch z
theorem Fr.refl {m l : Addr} {H : Hp} {n : Nat} (M : Mch H m l n) : Fr m l l H H := ⟨fun _ _ e _ _ => e, .inl rfl, fun _ h => h⟩
theorem upd_dom {H : Hp} {p b : Addr} {o : HO} (h : H b ≠ none) : (upd H p o) b ≠ none := by
  by_cases e : b = p
  · rw [e, upd_same]; exact fun z => nomatch z
  · rw [upd_ne e]; exact h
theorem Fr.free {m l l' p : Addr} {H H' : Hp} (f : Fr m l l' H H') (hp : H' p = none) : H p = none := by
  cases q : H p with
  | none => rfl
  | some o => exact absurd hp (f.dom p (by rw [q]; exact fun z => nomatch z))
theorem Fr.trans {m l l' l'' : Addr} {H H' H'' : Hp} (f : Fr m l l' H H') (g : Fr m l' l'' H' H'') : Fr m l l'' H H'' := by
  have hl : ∀ b o, H b = some o → b ≠ m → b ≠ l → b ≠ l' := fun b o e hm hl => by
    rcases f.new with z | z
    · rw [z]; exact hl
    · exact ne_of_none e z
  refine ⟨fun b o e hm hb => g.keep b o (f.keep b o e hm hb) hm (hl b o e hm hb), ?_, fun b h => g.dom b (f.dom b h)⟩
  rcases g.new with z | z
  · rw [z]; exact f.new
  · exact .inr (f.free z)
theorem Mch.mono {H : Hp} {m l : Addr} {n k : Nat} (M : Mch H m l n) (h : n ≤ k) : Mch H m l k := by
  obtain ⟨c, cs, ls, z, h1, h2, h3, h4, h5, h6, h7⟩ := M.ex
  exact ⟨c, cs, ls, z, h1, h2, h3, h4, h5, by omega, h7⟩
def spBegun (K : PySem.W.Frag) : Sp := fun vs H Q _ => ∃ (a : Addr) (ns : List Int), vs = [.ref a] ∧ SqL K H a (ns.map V.int) ∧ ns.length ≤ 63 ∧
  ∀ (m l : Addr) (H' : Hp), H m = none → H l = none → Same H H' → Mch H' m l 0 → Q (.ref m) H'
structure Txt (mg : Str → Option Value) : Prop where
  list : mg "list" = none
  len : mg "len" = none
  int : mg "int" = none
section
variable {P : Program} {w : World} {K : PySem.W.Frag} {mg : Str → Option Value} {base : Heap}
/-! ### _law_next -/
structure MS (H : Hp) (m c l : Addr) (cs ls : List Int) (z : Int) : Prop where
  dm : H m = some (.dK (kvM c l z))
  dc : H c = some (.lst (cs.map V.int))
  dl : H l = some (.lst (ls.map V.int))
  ne : c ≠ l
theorem MS.junk {H : Hp} {m c l p : Addr} {cs ls : List Int} {z : Int} {o : HO} (S : MS H m c l cs ls z) (hp : H p = none) : MS (upd H p o) m c l cs ls z :=
  ⟨by rw [upd_ne (ne_of_none S.dm hp)]; exact S.dm, by rw [upd_ne (ne_of_none S.dc hp)]; exact S.dc, by rw [upd_ne (ne_of_none S.dl hp)]; exact S.dl, S.ne⟩
theorem Fr.junk {m l l' p : Addr} {H H' : Hp} {o : HO} (f : Fr m l l' H H') (hp : H' p = none) : Fr m l l' H (upd H' p o) := by
  refine ⟨fun b o e h1 h2 => ?_, f.new, fun b h => upd_dom (f.dom b h)⟩
  have q := f.keep b o e h1 h2
  rw [upd_ne (ne_of_none q hp)]; exact q
theorem MS.left {H : Hp} {m c l : Addr} {cs ls : List Int} {z : Int} (S : MS H m c l cs ls z) : DGet H m (.str "left") (some (.ref l)) := by
  have e : valV (kvM c l z) (.inr "left" : Key) = some (.ref l) := by unfold valV kvM; rfl
  rw [← e]; exact DGet.k (k := Sum.inr "left") S.dm
theorem MS.cells {H : Hp} {m c l : Addr} {cs ls : List Int} {z : Int} (S : MS H m c l cs ls z) : DGet H m (.str "cells") (some (.ref c)) := by
  have e : valV (kvM c l z) (.inr "cells" : Key) = some (.ref c) := by unfold valV kvM; rfl
  rw [← e]; exact DGet.k (k := Sum.inr "cells") S.dm
theorem MS.at {H : Hp} {m c l : Addr} {cs ls : List Int} {z : Int} (S : MS H m c l cs ls z) : DGet H m (.str "at") (some (.int z)) := by
  have e : valV (kvM c l z) (.inr "at" : Key) = some (.int z) := by unfold valV kvM; rfl
  rw [← e]; exact DGet.k (k := Sum.inr "at") S.dm
theorem put_left (c l l' : Addr) (z : Int) : putK (kvM c l z) (.inr "left" : Key) (.ref l') = kvM c l' z := by unfold putK kvM; rfl
theorem put_at (c l : Addr) (z z' : Int) : putK (kvM c l z) (.inr "at" : Key) (.int z') = kvM c l z' := by unfold putK kvM; rfl
theorem dpAll_ints {K : PySem.W.Frag} {H : Hp} : ∀ ns : List Int, DpAll K H (ns.map V.int) (ns.map PyData.int)
  | [] => .nil
  | n :: ns => .cons (.int n) (dpAll_ints ns)
theorem lay_ints : ∀ ns : List Int, PyData.canLayAll0 (ns.map PyData.int) = true
  | [] => rfl
  | n :: ns => by
    show (PyData.canLay0 (.int n) && PyData.canLayAll0 (ns.map PyData.int)) = true
    rw [lay_ints ns]; rfl
theorem depth_ints : ∀ ns : List Int, PyData.depthAll (ns.map PyData.int) = 0
  | [] => rfl
  | n :: ns => by
    show max (PyData.depth (.int n)) (PyData.depthAll (ns.map PyData.int)) = 0
    rw [depth_ints ns]; rfl
theorem shaped_ints (ns : List Int) : SeqAt.shaped (.list (ns.map PyData.int)) = true := by
  show (PyData.canLayAll0 (ns.map PyData.int) && decide (PyData.depthAll (ns.map PyData.int) + 1 ≤ 64)) = true
  rw [lay_ints, depth_ints]; rfl
theorem ifF {c : Bool} {A B : Prop} (hc : c = false) (h : B) : if c = true then A else B := by rw [hc, if_neg Bool.false_ne_true]; exact h
theorem ifT {c : Bool} {A B : Prop} (hc : c = true) (h : A) : if c = true then A else B := by rw [if_pos hc]; exact h
theorem cut1 (y : Int) (ys : List Int) : cutV ((y :: ys).map V.int) (some 1) none = ys.map V.int := by
  unfold cutV
  have e1 : HT.sIx ((y :: ys).map V.int).length 0 (some (1 : Int)) = 1 := by
    show HT.sIx _ 0 (some ((1 : Nat) : Int)) = 1
    rw [HT.sIx_nat]
    simp
  have e2 : HT.sIx ((y :: ys).map V.int).length ((y :: ys).map V.int).length none = (y :: ys).length := by
    show ((y :: ys).map V.int).length = _
    rw [List.length_map]
  rw [e1, e2]
  simp only [List.map_cons, List.drop_succ_cons, List.drop_zero, List.length_cons, Nat.add_sub_cancel]
  exact List.take_of_length_le (by simp)
theorem MS.fresh {H : Hp} {m c l p : Addr} {cs ls : List Int} {z : Int} (S : MS H m c l cs ls z) (hp : H p = none) : p ≠ m ∧ p ≠ c ∧ p ≠ l :=
  ⟨(fun e => by rw [e, S.dm] at hp; cases hp), (fun e => by rw [e, S.dc] at hp; cases hp), (fun e => by rw [e, S.dl] at hp; cases hp)⟩
theorem MS.mc {H : Hp} {m c l : Addr} {cs ls : List Int} {z : Int} (S : MS H m c l cs ls z) : m ≠ c := ne_of S.dm S.dc (by intro q; cases q)
theorem MS.ml {H : Hp} {m c l : Addr} {cs ls : List Int} {z : Int} (S : MS H m c l cs ls z) : m ≠ l := ne_of S.dm S.dl (by intro q; cases q)
/-- a new list is put as what is left -/
theorem MS.putL {H : Hp} {m c l p : Addr} {cs ls ls' : List Int} {z : Int} (S : MS H m c l cs ls z) (hp : H p = none) :
    MS (upd (upd H p (.lst (ls'.map V.int))) m (.dK (putK (kvM c l z) (.inr "left" : Key) (.ref p)))) m c p cs ls' z := by
  obtain ⟨n1, n2, n3⟩ := S.fresh hp
  refine ⟨by rw [upd_same, put_left], ?_, ?_, n2.symm⟩
  · rw [upd_ne S.mc.symm, upd_ne n2.symm]; exact S.dc
  · rw [upd_ne n1, upd_same]
theorem Fr.putM {m l l' p : Addr} {H H' : Hp} {o o' : HO} (f : Fr m l l' H H') (hp : H' p = none) : Fr m l p H (upd (upd H' p o) m o') := by
  refine ⟨fun b o e h1 h2 => ?_, .inr (f.free hp), fun b h => upd_dom (upd_dom (f.dom b h))⟩
  have q := f.keep b o e h1 h2
  rw [upd_ne h1, upd_ne (ne_of_none q hp)]; exact q
theorem MS.putA {H : Hp} {m c l : Addr} {cs ls : List Int} {z z' : Int} (S : MS H m c l cs ls z) :
    MS (upd H m (.dK (putK (kvM c l z) (.inr "at" : Key) (.int z')))) m c l cs ls z' :=
  ⟨by rw [upd_same, put_at], by rw [upd_ne S.mc.symm]; exact S.dc, by rw [upd_ne S.ml.symm]; exact S.dl, S.ne⟩
theorem Fr.putA {m l l' : Addr} {H H' : Hp} {o : HO} (f : Fr m l l' H H') : Fr m l l' H (upd H' m o) :=
  ⟨fun b o e h1 h2 => by rw [upd_ne h1]; exact f.keep b o e h1 h2, f.new, fun b h => upd_dom (f.dom b h)⟩
theorem MS.setL {H : Hp} {m c l : Addr} {cs ls ls' : List Int} {z : Int} (S : MS H m c l cs ls z) : MS (upd H l (.lst (ls'.map V.int))) m c l cs ls' z :=
  ⟨by rw [upd_ne S.ml]; exact S.dm, by rw [upd_ne S.ne]; exact S.dc, upd_same, S.ne⟩
theorem Fr.setL {m l l' : Addr} {H H' : Hp} {o : HO} (f : Fr m l l' H H') : Fr m l l' H (upd H' l' o) := by
  refine ⟨fun b o e h1 h2 => ?_, f.new, fun b h => upd_dom (f.dom b h)⟩
  have nb : b ≠ l' := by
    rcases f.new with q | q
    · rw [q]; exact h2
    · exact ne_of_none e q
  rw [upd_ne nb]; exact f.keep b o e h1 h2
theorem MS.mch {H : Hp} {m c l : Addr} {cs ls : List Int} {z : Int} {n : Nat} (S : MS H m c l cs ls z) (h1 : 0 ≤ z) (h2 : z ≤ (n : Int)) (h3 : cs.length ≤ 63) (h4 : ls.length ≤ 63) : Mch H m l n :=
  ⟨c, cs, ls, z, S.dm, S.dc, S.dl, S.ne, h1, h2, h3, h4⟩
def spNext : Sp := fun vs H Q _ => ∃ (m l : Addr) (n : Nat) (k : Int), vs = [.ref m, .int k] ∧ Mch H m l n ∧ n < 1000000 ∧ 0 < k ∧ k < 1000000 ∧
  ∀ (r : Int) (l' : Addr) (H' : Hp), 0 ≤ r → r < k → Mch H' m l' (n + 1) → Fr m l l' H H' → Q (.int r) H'
end
/-! ### growth of the heap -/
theorem Same.upd {H : Hp} {p : Addr} {o : HO} (h : H p = none) : Same H (upd H p o) := fun b q e => by rw [upd_ne (ne_of_none e h)]; exact e
theorem Mch.same {H H' : Hp} {m l : Addr} {n : Nat} (s : Same H H') (M : Mch H m l n) : Mch H' m l n := by
  obtain ⟨c, cs, ls, z, h1, h2, h3, h⟩ := M.ex
  exact ⟨c, cs, ls, z, s _ _ h1, s _ _ h2, s _ _ h3, h⟩
theorem Mch.kept {H H' : Hp} {m l : Addr} {n : Nat} (M : Mch H m l n) (s : Same H H') : Kept m l l H H' := by
  obtain ⟨c, cs, ls, z, h1, h2, h3, h⟩ := M.ex
  exact ⟨fun b o e _ _ => s b o e, fun _ _ _ h => h, ⟨_, h1⟩, ⟨_, h3⟩⟩
theorem Mch.step {H H' : Hp} {m l l' : Addr} {n : Nat} (M : Mch H m l n) (f : Fr m l l' H H') : Kept m l l' H H' := by
  obtain ⟨c, cs, ls, z, h1, h2, h3, h⟩ := M.ex
  refine ⟨f.keep, fun b o e hb => ?_, ⟨_, h1⟩, ⟨_, h3⟩⟩
  rcases f.new with q | q
  · rw [q]; exact hb
  · exact ne_of_none e q
theorem Mch.ne {H : Hp} {m l p : Addr} {n : Nat} (M : Mch H m l n) (h : H p = none) : p ≠ m ∧ p ≠ l := by
  obtain ⟨c, cs, ls, z, h1, h2, h3, _⟩ := M.ex
  exact ⟨(fun e => by rw [e, h1] at h; cases h), (fun e => by rw [e, h3] at h; cases h)⟩
/-- a fresh list, and one behind it -/
theorem Fr.lead {H0 H H' : Hp} {m l l' : Addr} (s : Same H0 H) (f : Fr m l l' H H') : Fr m l l' H0 H' := by
  have d : ∀ b, H0 b ≠ none → H b ≠ none := fun b h => by
    cases q : H0 b with
    | none => exact absurd q h
    | some o => rw [s b o q]; exact fun z => nomatch z
  refine ⟨fun b o e h1 h2 => f.keep b o (s b o e) h1 h2, ?_, fun b h => f.dom b (d b h)⟩
  rcases f.new with q | q
  · exact .inl q
  · exact .inr (Same.free s q)
theorem DqAll.get {K : PySem.W.Frag} {H : Hp} {m l : Addr} : ∀ {ds : List PyData} {vs : List V} {i : Nat} {v : V}, DqAll K H m l vs ds → vs[i]? = some v → ∃ d, ds[i]? = some d ∧ Dq K H m l v d
  | [], _, i, v, h, e => by cases h; simp at e
  | d :: ds, _, 0, v, h, e => by
    cases h with
    | cons h1 h2 => simp at e; subst e; exact ⟨d, rfl, h1⟩
  | d :: ds, _, i + 1, v, h, e => by
    cases h with
    | cons h1 h2 => exact DqAll.get (i := i) h2 (by simpa using e)
end Ms
namespace Ms
open PySem PySem.Spec PyProof.Rows L2
def top (i : Nat) : Stmt := PySem.Challenge.pw_midswitch_k06_requests_asked.main.body.getD i (.Pass ⟨0, 0, 0, 0⟩)
abbrev sIni : Stmt := inClass (top 3) 0
abbrev sIniP : Stmt := inClass (top 4) 0
abbrev sIniM : Stmt := inClass (top 5) 0
abbrev sIniT : Stmt := inClass (top 7) 0
abbrev sPInt : Stmt := top 13
abbrev sPName : Stmt := top 14
abbrev sPSet : Stmt := top 15
abbrev sNeed : Stmt := top 16
abbrev sPNames : Stmt := top 17
abbrev sPGrid : Stmt := top 18
abbrev sReqIni : Stmt := inClass (top 23) 0
abbrev sNPlaces : Stmt := top 24
abbrev sPPlace : Stmt := top 25
abbrev sPAsk : Stmt := top 26
abbrev sPNum : Stmt := top 27
abbrev sNModes : Stmt := top 28
abbrev sPMode : Stmt := top 29
abbrev sPJoined : Stmt := top 30
abbrev sPNwe : Stmt := top 31
abbrev sPRen : Stmt := top 32
abbrev sBegun : Stmt := top 34
abbrev sNext : Stmt := top 35
abbrev sNames : Stmt := top 36
abbrev sSettings : Stmt := top 37
abbrev sOdd : Stmt := top 38
abbrev sBent : Stmt := top 39
abbrev sPlaces : Stmt := top 40
abbrev sModes : Stmt := top 41
abbrev sTold : Stmt := top 42
abbrev sKept : Stmt := top 43
abbrev sLaw : Stmt := top 44
abbrev sReqLen : Stmt := inClass (top 23) 1
abbrev sReqEq : Stmt := inClass (top 23) 2
abbrev sReqAdd : Stmt := inClass (top 23) 3
abbrev sReqKeep : Stmt := inClass (top 23) 4
abbrev sReqWith : Stmt := inClass (top 23) 5
abbrev sReqStr : Stmt := inClass (top 23) 6
abbrev sReqPlain : Stmt := inClass (top 23) 7
end Ms
namespace Ms
open PySem PySem.Spec PyProof.Rows L2
section
variable {P : Program} {w : World} {K : PySem.W.Frag} {mg : Str → Option Value} {base : Heap}
theorem scB : FnScope ["script", "cell"] ["script"] (defScope sBegun) := ⟨rfl, rfl, rfl, by decide +kernel, rfl, by decide +kernel, by decide +kernel⟩
theorem ok_begun {f : Addr} {fd : FuncData} (F : Fun K "_law_begun" "_law_begun" sBegun f fd) (T : Txt mg) : FnOk P w K mg base CX0 1 f fd ["script"] (spBegun K) := by
  refine F.ok scB (fun vs H Q E h => ?_) (fun cdv A outer s H vs Q E hr h => ?_)
  · obtain ⟨a, ns, rfl, _⟩ := h
    rfl
  · obtain ⟨a, ns, rfl, hS, hlen, k⟩ := h
    have hu := hu_of hr
    refine ⟨_, pss_one (ps_ret (pe_disp (pps_cons pe_str (pe_callTy call_list_of (by rfl) T.list (by decide +kernel) (pa_cons (pv 0) pa_nil))
      (pps_cons pe_str (pe_lc (own := [("cell", 1)]) (g := gName 1) (by rfl) scB.nd (pi_list (pv 0)) (blkOk_by (own := [("cell", 1)]) (N := ["script", "cell"]) (sc := defScope sBegun) (by decide +kernel))
        (fun _ _ _ _ _ => pg_name (i := 1) scB.nd rfl (Or.inl rfl)) (fun _ _ _ _ _ => pts_one (pt_cmpR op_ge (pv 1) (pe_op op_pow pe_int pe_int) (nomark _))) (fun _ _ _ _ _ => pv 1))
      (pps_cons pe_str pe_int pps_nil))) (by rfl) (by rfl) (fun z => by cases z) (by decide))), ?_⟩
    intro m hm
    have s0 : Same H (upd H m (.dK [])) := fun b o e => by rw [upd_ne (ne_of_none e hm)]; exact e
    refine ⟨_, rfl, a, _, rfl, .inl (s0.seq hS), fun c hc => ?_⟩
    have ncm : c ≠ m := fun z => by rw [z, upd_same] at hc; cases hc
    have hc0 : H c = none := by rw [upd_ne ncm] at hc; exact hc
    have s1 : Same H (upd (upd H m (.dK [])) c (.lst (ns.map V.int))) := fun b o e => by rw [upd_ne (ne_of_none e hc0)]; exact s0 b o e
    refine ⟨_, rfl, a, rfl, ⟨_, s1.seq hS⟩, fun l hl => ?_⟩
    have nlc : l ≠ c := fun z => by rw [z, upd_same] at hl; cases hl
    have hl1 : (upd H m (.dK [])) l = none := by rw [upd_ne nlc] at hl; exact hl
    have nlm : l ≠ m := fun z => by rw [z, upd_same] at hl1; cases hl1
    have hl0 : H l = none := by rw [upd_ne nlm] at hl1; exact hl1
    refine lc_list (K := K) (a := a) (xs := ns.map V.int) (fun i H2 => ∃ ls : List Int, ls.length ≤ i ∧ H2 = upd (upd (upd H m (.dK [])) c (.lst (ns.map V.int))) l (.lst (ls.map V.int))) ⟨[], Nat.le_refl _, rfl⟩ (fun i H2 _ ⟨ls, _, e⟩ => ?_) ?_ ?_
    · have s2 : Same H H2 := fun b o q => by rw [e, upd_ne (ne_of_none q hl0)]; exact s1 b o q
      exact s2.seq hS
    · rintro i x H2 hi ⟨ls, hls, e⟩
      obtain ⟨z, rfl⟩ : ∃ z, x = V.int z := by
        rw [List.getElem?_map] at hi
        cases q : ns[i]? with
        | none => rw [q] at hi; cases hi
        | some z => rw [q] at hi; exact ⟨z, (Option.some.inj hi).symm⟩
      have hil : i < ns.length := by
        have q := (List.getElem?_eq_some_iff.mp hi).1
        rw [List.length_map] at q
        exact q
      refine ⟨rfl, _, rfl, _, _, rfl, rfl, ⟨by decide, by decide, by decide⟩, _, _, rfl, rfl, _, rfl, ?_⟩
      refine ite2 (fun _ => ?_) (fun _ => ?_)
      · refine ⟨_, rfl, ls.map V.int, by rw [e]; exact upd_same, small1000 (by rw [List.length_map]; omega), ls ++ [z], ?_, ?_⟩
        · rw [List.length_append, List.length_singleton]; omega
        · rw [e, upd_upd, List.map_append]; rfl
      · exact ⟨ls, by omega, e⟩
    · rintro H2 ⟨ls, hls, e⟩
      rw [List.length_map] at hls
      refine ⟨?_, [(.inr "cells", .ref c), (.inr "left", .ref l), (.inr "at", .int 0)], rfl, (by show 3 ≤ 15; decide), ?_⟩
      · rw [e, upd_ne nlm.symm, upd_ne ncm.symm, upd_same]
      · refine k m l _ hm hl0 (fun b o q => ?_) ⟨c, ns, ls, 0, ?_, ?_, ?_, nlc.symm, Int.le_refl _, Int.le_refl _, hlen, by omega⟩
        · rw [upd_ne (ne_of_none q hm), e, upd_ne (ne_of_none q hl0)]; exact s1 b o q
        · rw [upd_same]; rfl
        · rw [upd_ne ncm, e, upd_ne nlc.symm, upd_same]
        · rw [upd_ne nlm, e, upd_same]

theorem scN : FnScope ["m", "many", "rest", "at", "lot", "cell", "blend"] ["m", "many"] (defScope sNext) := ⟨rfl, rfl, rfl, by decide +kernel, rfl, by decide +kernel, by decide +kernel⟩
set_option maxHeartbeats 4000000 in
theorem ok_next {f : Addr} {fd : FuncData} (F : Fun K "_law_next" "_law_next" sNext f fd) (T : Txt mg) : FnOk P w K mg base CX0 1 f fd ["m", "many"] spNext := by
  refine F.ok scN (fun vs H Q E h => ?_) (fun cdv A outer s H vs Q E hr h => ?_)
  · obtain ⟨m, l, n, k, rfl, _⟩ := h
    rfl
  · obtain ⟨m, l, n, k, rfl, M, hn, hk, hk2, q⟩ := h
    have hu := hu_of hr
    refine ⟨_, pss_cons (ps_while PassesOwn.never (PW.pt (pw_and (pt_cmpR (op_neD hr.units) (pe_dget hu (pv 0) pe_str (fun _ _ => rfl)) (pe_lst pa_nil) (nomark _))
          (pw_and1 (pt_cmpR op_eq (pe_ix ix_list (pe_dget hu (pv 0) pe_str (fun _ _ => rfl)) pe_int (fun _ _ => rfl)) pe_int (nomark _)))))
        (pss_one (ps_dput hu (pv 0) pe_str (pe_slice sl_list (pe_dget hu (pv 0) pe_str (fun _ _ => rfl)) (po_some pe_int) po_none) rfl)))
      (pss_cons (ps_if (pt_cmpR (op_neD hr.units) (pe_dget hu (pv 0) pe_str (fun _ _ => rfl)) (pe_lst pa_nil) (nomark _))
        (pss_cons (ps_set (i := 2) scN.nd rfl (Or.inl rfl) (pe_ix ix_list (pe_dget hu (pv 0) pe_str (fun _ _ => rfl)) pe_int (fun _ _ => rfl)))
          (pss_cons (ps_asg (pe_op op_fdiv (pv 2) (pv 1)) (pg_sub (pe_dget hu (pv 0) pe_str (fun _ _ => rfl)) pe_int set_list))
          (pss_one (ps_ret (pe_op op_mod (pe_callTy call_int1 (by rfl) T.int (by decide +kernel) (pa_cons (pv 2) pa_nil)) (pv 1))))))
        pss_nil)
      (pss_cons (ps_par (i := 3) (j := 4) (by rfl) scN.nd rfl rfl (by decide) rfl rfl (pa_cons (pe_op op_add (pe_dget hu (pv 0) pe_str (fun _ _ => rfl)) pe_int) (pa_cons (pe_dget hu (pv 0) pe_str (fun _ _ => rfl)) pa_nil)) (by rfl))
      (pss_cons (ps_dput hu (pv 0) pe_str (pv 3) rfl)
      (pss_cons (ps_set (i := 5) scN.nd rfl (Or.inl rfl) (pe_ifExp (pt_cmpR (op_neD hr.units) (pv 4) (pe_lst pa_nil) (nomark _))
        (pe_callTy call_int1 (by rfl) T.int (by decide +kernel) (pa_cons (pe_ix ix_list (pv 4) (pe_op op_mod (pe_callTy call_int1 (by rfl) T.int (by decide +kernel) (pa_cons (pe_op op_add (pe_op op_mul (pv 3) (pv 3)) (pe_op op_fdiv (pv 3) pe_int)) pa_nil))
          (pe_callB call_len_seq (by rfl) T.len PySem.boot_len (pa_cons (pv 4) pa_nil))) (fun _ _ => rfl)) pa_nil)) pe_int))
      (pss_cons (ps_set (i := 6) scN.nd rfl (Or.inl rfl) (pe_op op_mod (pe_callTy call_int1 (by rfl) T.int (by decide +kernel) (pa_cons (pe_op op_add (pe_op op_add (pe_op op_mul (pv 5) pe_int) (pe_op op_mul (pv 3) pe_int)) (pe_op op_mul (pe_op op_mul pe_int (pv 3)) (pv 3))) pa_nil)) pe_int))
      (pss_one (ps_ret (pe_op op_mod (pe_callTy call_int1 (by rfl) T.int (by decide +kernel) (pa_cons (pe_op op_fdiv (pe_op op_mod (pe_callTy call_int1 (by rfl) T.int (by decide +kernel) (pa_cons (pe_op op_add (pe_op op_mul (pv 6) pe_int) (pe_op op_mul pe_int (pv 3))) pa_nil)) pe_int) pe_int) pa_nil)) (pv 1))))))))), ?_⟩
    obtain ⟨c, cs, ls, z, h1, h2, h3, h4, h5, h6, h7, h8⟩ := M.ex
    refine (show ∀ D : Ends, (∀ l2 ls2 H3, H3 l ≠ none → ls2.length ≤ 63 → MS H3 m c l2 cs ls2 z → Fr m l l2 H H3 → D.nx [some (.ref m), some (.int k), none, none, none, none, none] H3) → tWhile _ _ D _ _ from ?_) _ ?_
    · intro D rest
      refine ⟨fun N σ H2 => σ = [some (.ref m), some (.int k), none, none, none, none, none] ∧ ∃ l2 ls, ls.length = N ∧ ls.length ≤ 63 ∧ H2 l ≠ none ∧ MS H2 m c l2 cs ls z ∧ Fr m l l2 H H2, ⟨_, rfl, l, ls, rfl, h8, (by rw [h3]; exact fun z => nomatch z), ⟨h1, h2, h3, h4⟩, Fr.refl M⟩, ?_⟩
      rintro N σ H2 ⟨rfl, l2, ls2, rfl, hz, hl2, S, f⟩
      refine ⟨_, rfl, m, .ref l2, rfl, S.left, Nat.zero_le _, fun p hp => ?_⟩
      have S' := S.junk (o := .lst []) hp
      have f' := f.junk (o := .lst []) hp
      have nz : ∀ {H2 : Hp} {p : Addr}, H2 l ≠ none → ∀ o, (upd H2 p o) l ≠ none := fun {H2 p} hl2 o => by
        by_cases e : l = p
        · rw [e, upd_same]; exact fun z => nomatch z
        · rw [upd_ne e]; exact hl2
      refine ⟨.list (ls2.map PyData.int), .list [], .lst (SqL.of S'.dl) (dpAll_ints _), .lst (SqL.of upd_same) .nil, shaped_ints _, rfl, _, rfl, ?_⟩
      cases ls2 with
      | nil =>
        refine ifF rfl ?_
        refine ifF rfl ?_
        exact rest l2 [] _ (nz hl2 _) hz S' f'
      | cons y ys =>
        refine ifT rfl ?_
        refine ⟨_, rfl, m, .ref l2, rfl, S'.left, l2, _, 0, .int y, rfl, rfl, SqL.of S'.dl, atI_nat (j := 0) rfl, rfl, _, rfl, ?_⟩
        refine ite2 (fun _ => ?_) (fun _ => rest l2 (y :: ys) _ (nz hl2 _) hz S' f')
        refine ⟨fun σ' H' => σ' = [some (.ref m), some (.int k), none, none, none, none, none] ∧ ∃ l2, H' l ≠ none ∧ MS H' m c l2 cs ys z ∧ Fr m l l2 H H', (fun σ' H' ⟨e, l3, g1, g2, g3⟩ => ⟨ys.length, by simp, e, l3, ys, rfl, by simp at hz; omega, g1, g2, g3⟩), ?_⟩
        refine ⟨_, rfl, m, .ref l2, rfl, S'.left, ⟨1, rfl, l2, _, rfl, SqL.of S'.dl, fun p2 hp2 => ?_⟩⟩
        rw [cut1]
        refine ⟨_, rfl, m, _, rfl, DPut.k (k := Sum.inr "left") (S'.junk hp2).dm (by show 3 < sizeLine; exact small1000 (by decide)), rfl, p2, nz (nz (nz hl2 _) _) _, S'.putL hp2, f'.putM hp2⟩
    · intro l2 ls2 H3 hl3 hz S f
      refine ⟨_, rfl, m, .ref l2, rfl, S.left, Nat.zero_le _, fun p hp => ?_⟩
      have S' := S.junk (o := .lst []) hp
      have f' := f.junk (o := .lst []) hp
      refine ⟨.list (ls2.map PyData.int), .list [], .lst (SqL.of S'.dl) (dpAll_ints _), .lst (SqL.of upd_same) .nil, shaped_ints _, rfl, _, rfl, ?_⟩
      cases ls2 with
      | cons y ys =>
        refine ifT rfl ?_
        refine ⟨_, rfl, m, .ref l2, rfl, S'.left, l2, _, 0, .int y, rfl, rfl, SqL.of S'.dl, atI_nat (j := 0) rfl, ?_⟩
        refine ⟨_, rfl, _, rfl, _, _, rfl, rfl, ⟨hk, by omega⟩, _, rfl, m, .ref l2, rfl, S'.left, l2, _, 0, 0, rfl, rfl, S'.dl, (by unfold ixN; rw [if_pos (by decide), if_pos (by simp only [List.map_cons, List.length_cons]; omega)]; rfl), ?_⟩
        refine ⟨_, rfl, .inl ⟨_, rfl, _, rfl, _, _, rfl, rfl, hk, ?_⟩⟩
        have S2 := S'.setL (ls' := (y / k) :: ys)
        exact q _ l2 _ (Int.emod_nonneg _ (by omega)) (Int.emod_lt_of_pos _ hk) (S2.mch h5 (by omega) h7 (by simpa using hz)) f'.setL
      | nil =>
        refine ifF rfl ?_
        refine ⟨_, rfl, m, .int z, rfl, S'.at, _, _, rfl, rfl, _, rfl, m, .ref c, rfl, S'.cells, _, _, rfl, ?_⟩
        refine ⟨_, rfl, _, rfl, m, _, rfl, DPut.k (k := Sum.inr "at") S'.dm (by show 3 < sizeLine; exact small1000 (by decide)), ?_⟩
        have S2 := S'.putA (z' := z + 1)
        have f2 := f'.putA (o := (.dK (putK (kvM c l2 z) (.inr "at" : Key) (.int (z + 1)))))
        refine ⟨_, rfl, Nat.zero_le _, fun p2 hp2 => ?_⟩
        have S3 := S2.junk (o := .lst []) hp2
        have f3 := f2.junk (o := .lst []) hp2
        refine ⟨.list (cs.map PyData.int), .list [], .lst (SqL.of S3.dc) (dpAll_ints _), .lst (SqL.of upd_same) .nil, shaped_ints _, rfl, _, rfl, ?_⟩
        cases cs with
        | nil =>
          refine ifF rfl ?_
          refine ⟨_, rfl, _, _, rfl, rfl, .inr ⟨by decide, by decide⟩, _, rfl, _, _, rfl, rfl, .inr ⟨by decide, by decide⟩, _, _, rfl, rfl, _, rfl, _, _, rfl, rfl, .inl ⟨by decide, by decide⟩, _, rfl, _, _, rfl, rfl, .inr ⟨by omega, by omega⟩, _, _, rfl, rfl, .inl ⟨_, rfl, _, _, rfl, rfl, (by show (0 : Int) < 2147483399; decide), ?_⟩⟩
          refine ⟨_, rfl, _, _, rfl, rfl, .inr ⟨by decide, by decide⟩, _, rfl, _, _, rfl, rfl, .inl ⟨by decide, by decide⟩, _, _, rfl, rfl, .inl ⟨_, rfl, _, _, rfl, rfl, (by show (0 : Int) < 2147483647; decide), _, _, rfl, rfl, ⟨by decide, by decide⟩, .inl ⟨_, rfl, _, rfl, _, _, rfl, rfl, hk, ?_⟩⟩⟩
          exact q _ l2 _ (Int.emod_nonneg _ (by omega)) (Int.emod_lt_of_pos _ hk) (S3.mch (by omega) (by omega) h7 (by simp)) f3
        | cons y ys =>
          refine ifT rfl ?_
          refine ⟨_, rfl, _, rfl, _, rfl, _, _, rfl, rfl, .inl ⟨by omega, by omega⟩, _, rfl, _, _, rfl, rfl, ⟨by decide, by decide⟩, _, _, rfl, rfl, .inl ⟨_, rfl, ?_⟩⟩
          have hlen : ((y :: ys).map V.int).length = ys.length + 1 := by rw [List.length_map, List.length_cons]
          refine ⟨_, rfl, c, _, rfl, .inl (SqL.of S3.dc), _, _, rfl, rfl, (by rw [hlen]; omega), ?_⟩
          generalize hg : ((z + 1) * (z + 1) + (z + 1) / 2) % ((((y :: ys).map V.int).length : Nat) : Int) = g
          have g0 : 0 ≤ g := by rw [← hg, hlen]; exact Int.emod_nonneg _ (by omega)
          have g1 : g < ((y :: ys).length : Nat) := by rw [← hg, hlen]; exact Int.emod_lt_of_pos _ (by omega)
          obtain ⟨gn, rfl⟩ : ∃ gn : Nat, g = (gn : Int) := ⟨g.toNat, by omega⟩
          obtain ⟨u, hu2⟩ : ∃ u, (y :: ys)[gn]? = some u := ⟨_, List.getElem?_eq_getElem (by omega)⟩
          refine ⟨c, _, (gn : Int), .int u, rfl, congrArg V.int hg, SqL.of S3.dc, atI_nat (by rw [List.getElem?_map, hu2]; rfl), .inl ⟨_, rfl, ?_⟩⟩
          refine ⟨_, rfl, _, _, rfl, rfl, .inr ⟨by decide, by decide⟩, _, rfl, _, _, rfl, rfl, .inr ⟨by decide, by decide⟩, _, _, rfl, rfl, _, rfl, _, _, rfl, rfl, .inl ⟨by decide, by decide⟩, _, rfl, _, _, rfl, rfl, .inr ⟨by omega, by omega⟩, _, _, rfl, rfl, .inl ⟨_, rfl, _, _, rfl, rfl, (by show (0 : Int) < 2147483399; decide), ?_⟩⟩
          refine ⟨_, rfl, _, _, rfl, rfl, .inr ⟨by decide, by decide⟩, _, rfl, _, _, rfl, rfl, .inl ⟨by decide, by decide⟩, _, _, rfl, rfl, .inl ⟨_, rfl, _, _, rfl, rfl, (by show (0 : Int) < 2147483647; decide), _, _, rfl, rfl, ⟨by decide, by decide⟩, .inl ⟨_, rfl, _, rfl, _, _, rfl, rfl, hk, ?_⟩⟩⟩
          exact q _ l2 _ (Int.emod_nonneg _ (by omega)) (Int.emod_lt_of_pos _ hk) (S3.mch (by omega) (by omega) h7 (by simp)) f3
end
end Ms
namespace Ms
open PySem PySem.Spec PyProof.Rows L2
structure TxtN (mg : Str → Option Value) (fN : Addr) : Prop extends Txt mg where
  next : mg "_law_next" = some (.ref fN)
  range : mg "range" = none
  tuple : mg "tuple" = none
  zip : mg "zip" = none
/-- s * n -/
theorem op_mul_si {X : Cx} : OpR X (binaryOp .Mult) (fun x y H Q => ∃ z i, x = .str z ∧ y = .int i ∧ PySem.MulOk z i ∧ Q (.str (Txt.mul z i)) H) := by
  intro pins s σ H x y v u Q I rx ry h
  obtain ⟨z, i, rfl, rfl, ok, q⟩ := h
  obtain ⟨t, rfl⟩ := rx
  obtain ⟨t', rfl⟩ := ry
  exact PySem.SB.mul ok fun t2 k => ⟨.str _, H, I.tok _, ⟨_, rfl⟩, q⟩
theorem tyes {σ : L2.St} {H : Hp} {R S : Hp → Prop} (h : R H) : tYes σ H (fun b H3 => if b = true then R H3 else S H3) := by
  show if true = true then R H else S H
  rw [if_pos rfl]
  exact h
/-- a list of texts grows by one -/
theorem str_grow {H8 H9 : Hp} {D : Addr} {ys : List Str} {y : Str} (e : H9 = upd H8 D (.lst (ys.map V.str))) : upd H9 D (.lst (ys.map V.str ++ [.str y])) = upd H8 D (.lst ((ys ++ [y]).map V.str)) := by
  rw [e, upd_upd, List.map_append]
  rfl
/-! ### short texts -/
def sOk (a : Nat) (z : Str) : Prop := z.length ≤ a ∧ ∀ c ∈ z.cps.toList, c < 0x110000
theorem sOk.mono {a b : Nat} {z : Str} (h : sOk a z) (k : a ≤ b) : sOk b z := ⟨Nat.le_trans h.1 k, h.2⟩
theorem sOk.app {a b : Nat} {z y : Str} (h : sOk a z) (k : sOk b y) : sOk (a + b) (z ++ y) := by
  refine ⟨by rw [Str.length_append]; exact Nat.add_le_add h.1 k.1, fun c hc => ?_⟩
  have e : (z ++ y).cps.toList = z.cps.toList ++ y.cps.toList := Array.toList_append
  rw [e] at hc
  exact (List.mem_append.mp hc).elim (h.2 c) (k.2 c)
theorem sOk.cut {a : Nat} {z : Str} (h : sOk a z) (lo hi : Option Int) : sOk a (cutS z lo hi) := by
  refine ⟨?_, fun c hc => h.2 c ?_⟩
  · show ((z.cps.toList.drop (HT.sIx z.length 0 lo)).take (HT.sIx z.length z.length hi - HT.sIx z.length 0 lo)).toArray.size ≤ a
    have e : z.cps.toList.length ≤ a := by rw [Array.length_toList]; exact h.1
    rw [List.size_toArray, List.length_take, List.length_drop]
    omega
  · have hc' : c ∈ ((z.cps.toList.drop (HT.sIx z.length 0 lo)).take (HT.sIx z.length z.length hi - HT.sIx z.length 0 lo)) := by simpa [cutS] using hc
    exact List.mem_of_mem_drop (List.mem_of_mem_take hc')
theorem sOk.sign {c : Nat} (h : c < 0x110000) : sOk 1 ⟨#[c]⟩ := ⟨Nat.le_refl _, fun d hd => by simp at hd; rw [hd]; exact h⟩
theorem sOk.okd {a B : Nat} {z : Str} (h : sOk a z) : okD B (.str z) = true := by
  simp only [okD, List.all_eq_true, decide_eq_true_eq]
  exact h.2
abbrev alpha : Str := "abcdefghijklmnopqrstuvwxyz"
theorem alpha_list : alpha.cps.toList = [97, 98, 99, 100, 101, 102, 103, 104, 105, 106, 107, 108, 109, 110, 111, 112, 113, 114, 115, 116, 117, 118, 119, 120, 121, 122] := by decide +kernel
theorem alpha_at {i : Int} (h0 : 0 ≤ i) (h1 : i < 26) : ∃ c, atI alpha.cps.toList i = some c ∧ c < 0x110000 := by
  obtain ⟨j, rfl⟩ : ∃ j : Nat, i = (j : Int) := ⟨i.toNat, by omega⟩
  have hl : alpha.cps.toList.length = 26 := by rw [alpha_list]; rfl
  obtain ⟨c, hc⟩ : ∃ c, alpha.cps.toList[j]? = some c := ⟨_, List.getElem?_eq_getElem (by rw [hl]; omega)⟩
  refine ⟨c, atI_nat hc, ?_⟩
  have z : ∀ d ∈ alpha.cps.toList, d < 0x110000 := by rw [alpha_list]; decide
  exact z c (List.mem_of_getElem? hc)
theorem alpha_len : alpha.length ≤ sizeLine := by decide +kernel
theorem mul8 (c : Nat) : Txt.mul ⟨#[c]⟩ 8 = ⟨#[c, c, c, c, c, c, c, c]⟩ := by rfl
theorem mul8_ok (c : Nat) : PySem.MulOk ⟨#[c]⟩ 8 := ⟨by decide, fun _ _ => by show ¬ ((1 : Nat) : Int) > (2 ^ 63 - 1) / 8; decide, fun _ _ => rfl⟩
section
variable {P : Program} {w : World} {K : PySem.W.Frag} {mg : Str → Option Value} {base : Heap} {fN : Addr}
abbrev NN : List Str := ["m", "many", "letters", "stem", "k", "at", "first", "by", "word"]
theorem scNm : FnScope NN ["m", "many"] (defScope sNames) := ⟨rfl, rfl, rfl, by decide +kernel, rfl, by decide +kernel, by decide +kernel⟩
def spNames : Sp := fun vs H Q _ => ∃ (m l : Addr) (n : Nat) (k : Nat), vs = [.ref m, .int (k : Int)] ∧ Mch H m l n ∧ n < 900000 ∧ 1 ≤ k ∧ k ≤ 8 ∧
  ∀ (p : Addr) (ys : List Str) (l' : Addr) (H' : Hp), H p = none → H' p = some (.lst (ys.map V.str)) → ys.length = k → (∀ y ∈ ys, sOk 16 y) → p ≠ m → p ≠ l' → Mch H' m l' (n + 11) → Fr m l l' H H' → Q (.ref p) H'
theorem ok_names {f : Addr} {fd fdN : FuncData} (F : Fun K "_law_names" "_law_names" sNames f fd) (T : TxtN mg fN) (FN : Fun K "_law_next" "_law_next" sNext fN fdN) (bN : Binds K fdN ["m", "many"] []) : FnOk P w K mg base CX0 2 f fd ["m", "many"] spNames := by
  have GN : FnOk P w K mg base CX0 1 fN fdN ["m", "many"] spNext := ok_next FN T.toTxt
  refine F.ok scNm (fun vs H Q E h => ?_) (fun cdv A outer s H vs Q E hr h => ?_)
  · obtain ⟨m, l, n, k, rfl, _⟩ := h
    rfl
  · obtain ⟨m, l, n, k, rfl, M, hn, hk, hk2, q⟩ := h
    refine ⟨_, pss_cons (ps_asg (pe_tup (pa_cons pe_str (pa_cons pe_str pa_nil))) (pg_tup rfl (pgs_cons (pg_name (i := 2) scNm.nd rfl (Or.inr rfl)) (pgs_cons (pg_name (i := 3) scNm.nd rfl (Or.inr rfl)) pgs_nil))))
      (pss_cons (ps_for PassesOwn.never rfl (pi_range1 (by rfl) T.range (pa_cons (pe_call GN hr rfl T.next FN.kp bN .nil pass0 (pa_cons (pv 0) (pa_cons pe_int pa_nil))) pa_nil)) (pg_name (i := 4) scNm.nd rfl (Or.inl rfl))
        (pss_one (ps_set (i := 3) scNm.nd rfl (Or.inr rfl) (pe_op op_add_str (pv 3) (pe_ix ix_str (pv 2) (pe_call GN hr rfl T.next FN.kp bN .nil pass0 (pa_cons (pv 0) (pa_cons pe_int pa_nil))) (fun _ _ => rfl))))))
      (pss_cons (ps_asg (pe_tup (pa_cons (pe_call GN hr rfl T.next FN.kp bN .nil pass0 (pa_cons (pv 0) (pa_cons (pe_op op_add (pe_callB call_len_str (by rfl) T.len PySem.boot_len (pa_cons (pv 3) pa_nil)) pe_int) pa_nil)))
          (pa_cons (pe_call GN hr rfl T.next FN.kp bN .nil pass0 (pa_cons (pv 0) (pa_cons pe_int pa_nil)))
          (pa_cons (pe_ix ix_list (pe_lst (pa_cons pe_int (pa_cons pe_int (pa_cons pe_int (pa_cons pe_int (pa_cons pe_int (pa_cons pe_int pa_nil))))))) (pe_call GN hr rfl T.next FN.kp bN .nil pass0 (pa_cons (pv 0) (pa_cons pe_int pa_nil))) (fun _ _ => rfl)) pa_nil))))
        (pg_tup rfl (pgs_cons (pg_name (i := 5) scNm.nd rfl (Or.inr rfl)) (pgs_cons (pg_name (i := 6) scNm.nd rfl (Or.inr rfl)) (pgs_cons (pg_name (i := 7) scNm.nd rfl (Or.inr rfl)) pgs_nil)))))
      (pss_cons (ps_set (i := 8) scNm.nd rfl (Or.inr rfl) (pe_slice sl_str (pe_op op_add_str (pv 3) (pe_op op_mul_si (pe_ix ix_str (pv 2) (pv 6) (fun _ _ => rfl)) pe_int)) po_none (po_some pe_int)))
      (pss_cons (ps_if (pt_cmpR op_gt (pv 7) pe_int (nomark _)) (pss_one (ps_ret (pe_lc (own := [("k", 4)]) (g := gName 4) (by rfl) scNm.nd (pi_range1 (by rfl) T.range (pa_cons (pv 1) pa_nil)) (blkOk_by (own := [("k", 4)]) (N := NN) (sc := defScope sNames) (by decide +kernel))
          (fun _ _ _ _ _ => pg_name (i := 4) scNm.nd rfl (Or.inl rfl)) (fun _ _ _ _ _ => pts_nil) (fun _ _ _ _ _ => pe_ifExp (pt_cmpR op_gt (pv 7) pe_int (nomark _)) (pe_slice sl_str (pv 8) (po_some (pv 4)) po_none) (pe_slice sl_str (pv 8) po_none (po_some (pe_op op_sub (pe_op op_add (pv 4) pe_int) (pv 1)))))))) pss_nil)
      (pss_one (ps_ret (pe_lc (own := [("k", 4)]) (g := gName 4) (by rfl) scNm.nd (pi_range1 (by rfl) T.range (pa_cons (pv 1) pa_nil)) (blkOk_by (own := [("k", 4)]) (N := NN) (sc := defScope sNames) (by decide +kernel))
          (fun _ _ _ _ _ => pg_name (i := 4) scNm.nd rfl (Or.inl rfl)) (fun _ _ _ _ _ => pts_nil) (fun _ _ _ _ _ => pe_op op_add_str (pe_op op_add_str (pe_slice sl_str (pv 3) po_none (po_some (pv 5)))
            (pe_ix ix_str (pv 2) (pe_op op_mod (pe_callTy call_int1 (by rfl) T.int (by decide +kernel) (pa_cons (pe_op op_add (pv 6) (pe_op op_mul (pv 7) (pv 4))) pa_nil)) pe_int) (fun _ _ => rfl))) (pe_slice sl_str (pv 3) (po_some (pv 5)) po_none))))))))), ?_⟩
    refine ⟨(by show 2 ≤ sizeLine; decide), fun p1 h1 => ⟨p1, _, rfl, .inl (.inl upd_same), rfl, _, _, rfl, _, _, rfl, rfl, ?_⟩⟩
    have s1 : Same H _ := Same.upd (o := .tup [.str alpha, .str ""]) h1
    refine ⟨_, rfl, m, l, n, 8, rfl, M.same s1, by omega, by decide, by decide, fun r0 l1 H1 r0p r0l M1 f1 => ?_⟩
    refine ⟨r0, rfl, by omega, by omega, ?_⟩
    refine for_range (lo := 0) (n := r0.toNat) (fun i σ H2 => ∃ (z : Str) (v4 : Option V) (l2 : Addr), σ = [some (.ref m), some (.int (k : Int)), some (.str alpha), some (.str z), v4, none, none, none, none] ∧ sOk i z ∧ Mch H2 m l2 (n + 1 + i) ∧ Fr m l l2 H H2)
      ⟨"", _, l1, rfl, ⟨Nat.le_refl _, fun c hc => by cases hc⟩, M1, Fr.lead s1 f1⟩ ?_ ?_
    · rintro i σ H2 hi ⟨z, v4, l2, rfl, hz, M2, f2⟩
      refine ⟨_, rfl, _, rfl, _, rfl, m, l2, _, 26, rfl, M2, by omega, by decide, by decide, fun r l3 H3 rp rl M3 f3 => ?_⟩
      obtain ⟨c, hc, hc2⟩ := alpha_at rp rl
      refine ⟨alpha, r, c, rfl, rfl, alpha_len, hc, z, _, rfl, rfl, ?_, ?_⟩
      · have := hz.1
        show z.length + 1 ≤ sizeLine
        exact small1000 (by omega)
      · exact ⟨_, _, l3, rfl, hz.app (sOk.sign hc2), M3, f2.trans f3⟩
    · rintro σ H2 ⟨z, v4, l2, rfl, hz, M2, f2⟩
      have z7 := hz.1
      have zs : z.length ≤ sizeLine := Nat.le_of_lt (small1000 (by omega))
      refine ⟨_, rfl, _, rfl, z, rfl, zs, _, _, rfl, rfl, m, l2, _, (z.length : Int) + 1, rfl, M2, by omega, by omega, by omega, fun r5 l3 H3 a5 b5 M3 f3 => ?_⟩
      refine ⟨_, rfl, m, l3, _, 26, rfl, M3, by omega, by decide, by decide, fun r6 l4 H4 a6 b6 M4 f4 => ?_⟩
      refine ⟨(by show 6 ≤ sizeLine; decide), fun pL hL => ?_⟩
      have sL := Same.upd (o := .lst [.int 1, .int 3, .int 5, .int 7, .int 9, .int 11]) hL
      have nL := M4.ne hL
      refine ⟨_, rfl, m, l4, _, 6, rfl, M4.same sL, by omega, by decide, by decide, fun r7 l5 H5 a7 b7 M5 f5 => ?_⟩
      obtain ⟨b, hb, b1, b11⟩ : ∃ b : Int, atI ([.int 1, .int 3, .int 5, .int 7, .int 9, .int 11] : List V) r7 = some (.int b) ∧ 1 ≤ b ∧ b ≤ 11 := by
        obtain ⟨j, rfl⟩ : ∃ j : Nat, r7 = (j : Int) := ⟨r7.toNat, by omega⟩
        have hj : j < 6 := by omega
        match j, hj with
        | 0, _ => exact ⟨1, rfl, by decide, by decide⟩
        | 1, _ => exact ⟨3, rfl, by decide, by decide⟩
        | 2, _ => exact ⟨5, rfl, by decide, by decide⟩
        | 3, _ => exact ⟨7, rfl, by decide, by decide⟩
        | 4, _ => exact ⟨9, rfl, by decide, by decide⟩
        | 5, _ => exact ⟨11, rfl, by decide, by decide⟩
      refine ⟨pL, _, r7, .int b, rfl, rfl, SqL.of (f5.keep pL _ upd_same nL.1 nL.2), hb, (by show 3 ≤ sizeLine; decide), fun p3 h3 => ?_⟩
      have F5 : Fr m l l5 H H5 := f2.trans (f3.trans (f4.trans (Fr.lead sL f5)))
      refine ⟨p3, _, rfl, .inl (.inl upd_same), rfl, _, _, rfl, _, _, rfl, _, _, rfl, rfl, ?_⟩
      have s3 := Same.upd (o := .tup [.int r5, .int r6, .int b]) h3
      have M6 := M5.same s3
      have F6 := F5.junk (o := .tup [.int r5, .int r6, .int b]) h3
      obtain ⟨c6, hc6, cc6⟩ := alpha_at a6 b6
      refine ⟨_, rfl, _, rfl, _, rfl, alpha, r6, c6, rfl, rfl, alpha_len, hc6, _, 8, rfl, rfl, mul8_ok c6, z, _, rfl, rfl, ?_, 8, rfl, _, rfl, ?_, ?_⟩
      · rw [mul8]
        show z.length + 8 ≤ sizeLine
        exact Nat.le_of_lt (small1000 (by omega))
      · rw [mul8, Str.length_append]
        show z.length + 8 ≤ sizeLine
        exact Nat.le_of_lt (small1000 (by omega))
      obtain ⟨W, hW, eW⟩ : ∃ W, sOk 16 W ∧ W = cutS (z ++ Txt.mul { cps := #[c6] } 8) none (some 8) := ⟨_, by
        rw [mul8]
        exact (((hz.mono (show r0.toNat ≤ 7 by omega)).app (b := 8) ⟨by show 8 ≤ 8; decide, fun d hd => by simp at hd; rw [hd]; exact cc6⟩).mono (by decide)).cut _ _, rfl⟩
      rw [← eW]
      have Wl : W.length ≤ sizeLine := Nat.le_trans hW.1 (by decide)
      have ek : ((k : Int)).toNat = k := by omega
      refine ⟨_, rfl, _, _, rfl, rfl, _, rfl, ite2 (fun _ => ?_) (fun _ => ?_)⟩
      · refine ⟨_, rfl, (k : Int), rfl, by omega, by omega, fun D hD => ?_⟩
        have nD := M6.ne hD
        refine lc_range (lo := 0) (n := ((k : Int)).toNat) (fun i H9 => ∃ ys : List Str, ys.length = i ∧ (∀ y ∈ ys, sOk 16 y) ∧ H9 = upd _ D (.lst (ys.map V.str))) ⟨[], rfl, (fun y hy => nomatch hy), rfl⟩ ?_ ?_
        · rintro i H9 hi ⟨ys, yl, yo, e9⟩
          refine ⟨rfl, tyes ?_⟩
          refine ⟨_, rfl, _, _, rfl, rfl, _, rfl, ite2 (fun _ => ?_) (fun _ => ?_)⟩
          · refine ⟨_, rfl, _, rfl, _, rfl, _, rfl, Wl, _, by rw [e9]; exact upd_same, small1000 (by rw [List.length_map]; omega), _, (by rw [List.length_append, yl]; rfl), ?_, str_grow e9⟩
            intro y hy
            rcases List.mem_append.mp hy with hy | hy
            · exact yo y hy
            · rw [List.mem_singleton.mp hy]; exact hW.cut _ _
          · refine ⟨_, rfl, _, rfl, _, _, rfl, rfl, _, rfl, _, _, rfl, rfl, _, rfl, _, rfl, Wl, _, by rw [e9]; exact upd_same, small1000 (by rw [List.length_map]; omega), _, (by rw [List.length_append, yl]; rfl), ?_, str_grow e9⟩
            intro y hy
            rcases List.mem_append.mp hy with hy | hy
            · exact yo y hy
            · rw [List.mem_singleton.mp hy]; exact hW.cut _ _
        · rintro H9 ⟨ys, yl, yo, e9⟩
          have sD := Same.upd (o := .lst (ys.map V.str)) hD
          rw [e9]
          exact q D ys l5 _ (F6.free hD) upd_same (by omega) yo nD.1 nD.2 ((M6.same sD).mono (by omega)) (F6.junk hD)
      · refine ⟨_, rfl, (k : Int), rfl, by omega, by omega, fun D hD => ?_⟩
        have nD := M6.ne hD
        refine lc_range (lo := 0) (n := ((k : Int)).toNat) (fun i H9 => ∃ ys : List Str, ys.length = i ∧ (∀ y ∈ ys, sOk 16 y) ∧ H9 = upd _ D (.lst (ys.map V.str))) ⟨[], rfl, (fun y hy => nomatch hy), rfl⟩ ?_ ?_
        · rintro i H9 hi ⟨ys, yl, yo, e9⟩
          have hz7 : sOk 7 z := hz.mono (by omega)
          obtain ⟨c9, hc9, cc9⟩ := alpha_at (i := (r6 + b * (0 + (i : Int))) % 26) (Int.emod_nonneg _ (by decide)) (Int.emod_lt_of_pos _ (by decide))
          have p1 := (hz7.cut none (some r5))
          have p2 := (p1.app (sOk.sign cc9))
          have p3' := p2.app (hz7.cut (some r5) none)
          refine ⟨rfl, tyes ?_⟩
          refine ⟨_, rfl, _, rfl, _, rfl, _, rfl, zs, _, rfl, _, rfl, _, rfl, _, rfl, _, _, rfl, rfl, .inr ⟨by omega, by omega⟩, _, _, rfl, rfl, .inl ⟨_, rfl, _, _, rfl, rfl, (by show (0 : Int) < 26; decide), ?_⟩⟩
          refine ⟨alpha, _, c9, rfl, rfl, alpha_len, hc9, _, _, rfl, rfl, ?_, _, rfl, _, rfl, _, rfl, _, rfl, zs, _, _, rfl, rfl, ?_, _, by rw [e9]; exact upd_same, small1000 (by rw [List.length_map]; omega), _, (by rw [List.length_append, yl]; rfl), ?_, str_grow e9⟩
          · have := p1.1
            show _ + 1 ≤ sizeLine
            exact Nat.le_of_lt (small1000 (by omega))
          · have := p2.1
            have := (hz7.cut (some r5) none).1
            exact Nat.le_of_lt (small1000 (by omega))
          · intro y hy
            rcases List.mem_append.mp hy with hy | hy
            · exact yo y hy
            · rw [List.mem_singleton.mp hy]; exact p3'.mono (by decide)
        · rintro H9 ⟨ys, yl, yo, e9⟩
          have sD := Same.upd (o := .lst (ys.map V.str)) hD
          rw [e9]
          exact q D ys l5 _ (F6.free hD) upd_same (by omega) yo nD.1 nD.2 ((M6.same sD).mono (by omega)) (F6.junk hD)
end
end Ms
namespace Ms
open PySem PySem.Spec PyProof.Rows L2
/-! ### zip(list, tuple) over KE's draws -/
/-- the list at a, the tuple at b, the items in new pairs -/
def ItZM (K : PySem.W.Frag) (a b : Addr) : It :=
  ⟨fun i H => ∃ (xs ys : List V), SqL K H a xs ∧ SqT K H b ys ∧ i < xs.length ∧ i < ys.length,
    fun i H v H' => ∃ T x y, v = .ref T ∧ H T = none ∧ H' = upd H T (.tup [x, y]) ∧ (∀ xs, SqL K H a xs → xs[i]? = some x) ∧ ∀ ys, SqT K H b ys → ys[i]? = some y,
    fun i H => ∃ xs ys : List V, SqL K H a xs ∧ SqT K H b ys ∧ i ≤ xs.length ∧ i ≤ ys.length ∧ (i = xs.length ∨ i = ys.length)⟩
theorem walk_zm {K : PySem.W.Frag} {a b : Addr} {xs ys : List V} {n : Nat} (hn : n = min xs.length ys.length) : Walk (ItZM K a b) n (fun H => SqL K H a xs ∧ SqT K H b ys) (YPair (fun i => xs[i]?) (fun i => ys[i]?)) := by
  subst hn
  refine ⟨fun i _ hi q => ⟨xs, ys, q.1, q.2, by omega, by omega⟩, fun _ q => ⟨xs, ys, q.1, q.2, by omega, by omega, by omega⟩, fun i H v H' _ q y => ?_⟩
  obtain ⟨T, x, z, h1, h2, h3, h4, h5⟩ := y
  exact ⟨T, x, z, h1, h2, h3, h4 xs q.1, h5 ys q.2⟩
section
variable {a b z TI TO i1 i2 : Addr}
abbrev zmCells (z TI TO i1 i2 : Addr) : List Addr := [z, TI, TO, i1, i2]
abbrev ZmSt (a b z TI TO i1 i2 : Addr) : Nat → Heap → Prop := fun i h => IsZip h z TI TO .none ∧ IsTupOf2 h TI (.ref i1) (.ref i2) ∧ (∃ x y, IsTupOf2 h TO x y) ∧ h.IsListIter i1 a i ∧ h.IsTupleIter i2 b i
theorem zm_mem {c z TI TO i1 i2 : Addr} (h : c ∈ zmCells z TI TO i1 i2) : c = z ∨ c = TI ∨ c = TO ∨ c = i1 ∨ c = i2 := by simpa using h
theorem zm_there {i : Nat} {h : Heap} (st : ZmSt a b z TI TO i1 i2 i h) : ∀ c ∈ zmCells z TI TO i1 i2, ∃ o, h.get? c = some o ∧ ∀ v, o.data ≠ .cell v := fun c hc => by
  obtain ⟨hz, hTI, ⟨x, y, hTO⟩, ⟨o1, e1, _, d1⟩, ⟨o2, e2, _, d2⟩⟩ := st
  rcases zm_mem hc with rfl | rfl | rfl | rfl | rfl
  · exact ⟨_, hz, fun v q => nomatch q⟩
  · exact ⟨_, hTI, fun v q => nomatch q⟩
  · exact ⟨_, hTO, fun v q => nomatch q⟩
  · exact ⟨o1, e1, fun v q => by rw [d1] at q; cases q⟩
  · exact ⟨o2, e2, fun v q => by rw [d2] at q; cases q⟩
theorem turn_zm {P : Program} {w : World} {K : PySem.W.Frag} {elts : List Expr} {kk : Nat} {tpos : Pos} (S : ZipSep2 z TI TO i1 i2 [i1, a] [i2, b]) (na : a ≠ i1) (nb : b ≠ i2) :
    Turn P w K (.Tuple elts kk tpos) (ItZM K a b) (zmCells z TI TO i1 i2) z (ZmSt a b z TI TO i1 i2) where
  mem := by simp
  obj := fun i h st => zm_there st
  keep := fun i h h' st k => by
    obtain ⟨hz, hTI, ⟨x, y, hTO⟩, h1, h2⟩ := st
    exact ⟨k z (by simp) _ hz, k TI (by simp) _ hTI, ⟨x, y, k TO (by simp) _ hTO⟩, h1.at fun o q => k i1 (by simp) o q, h2.at fun o q => k i2 (by simp) o q⟩
  item := by
    intro X hP hw hK hc i pins s σ H E I hf st hg
    subst hP hw hK
    have live := zm_there st
    obtain ⟨hz, hTI, ⟨x0, y0, hTO⟩, h1, h2⟩ := st
    obtain ⟨xs, ys, hqx, hqy, hi1, hi2⟩ := hg
    obtain ⟨its, rv, p, _⟩ := I.list hqx
    obtain ⟨its2, rv2, p2, _⟩ := I.tuple hqy
    have l1 := rv.length
    have l2 := rv2.length
    have hh : X.A.in1.handled = none := I.ok.hd hc
    have fresh : ∀ c ∈ zmCells z TI TO i1 i2, c ≠ s.heap.objs.size := fun c hc => by
      obtain ⟨o, e, _⟩ := live c hc
      exact Nat.ne_of_lt (Heap.lt_size e)
    refine wpAny_pyNext_zipD2_item S (Draws.list hh i1 a na its.toArray) (Draws.tuple hh i2 b nb its2.toArray) hz hTI hTO ⟨h1, p.isList⟩ ⟨h2, p2⟩ (by simp; omega) (by simp; omega) fun u u2 h' tk hu hu2 z' TO' st1' st2' hT hsz hk => ?_
    refine ⟨_, rfl, wpAny_letOwnedTupleGo_zip (s := { s with heap := h', toks := tk }) z' fun h'' z'' sb => ?_⟩
    have hx : xs[i]? = some xs[i] := List.getElem?_eq_getElem hi1
    have hy : ys[i]? = some ys[i] := List.getElem?_eq_getElem hi2
    obtain ⟨v, hv, ru⟩ := rv.get hx
    obtain ⟨v2, hv2, ru2⟩ := rv2.get hy
    have e1 : u = v := by simp [hv] at hu; exact hu.symm
    have e2 : u2 = v2 := by simp [hv2] at hu2; exact hu2.symm
    subst e1 e2
    have zN := fresh z (by simp)
    have hT2 : h''.get? s.heap.objs.size = some { cls := .type "tuple", data := .seq #[u, u2] } := (sb.2 _ zN.symm).trans hT
    have new : ObjOk X.prog X.w (upd H s.heap.objs.size (.tup [xs[i], ys[i]])) h'' s.heap.objs.size (.tup [xs[i], ys[i]]) :=
      ⟨(by show 2 ≤ sizeLine; decide), [u, u2], .cons ru (.cons ru2 .nil), ⟨_, hT2, rfl, _, rfl⟩⟩
    have I1 : L2.Inv X pins σ (upd H s.heap.objs.size (.tup [xs[i], ys[i]])) { s with heap := h'', toks := tk } :=
      I.turnedNew (t' := tk) (ch := zmCells z TI TO i1 i2) (fun c o hb q => (sb.2 c fun e => hb (by simp [e])).trans (hk c o (fun e => hb (by simp [e])) (fun e => hb (by simp [e])) (fun e => hb (by simp [e])) (fun e => hb (by simp [e])) q)) hf (Nat.le_refl _) new
    refine ⟨.ref s.heap.objs.size, _, I1, rfl, ⟨_, xs[i], ys[i], rfl, I.hok.fresh (Nat.le_refl _), rfl, fun l hl => ?_, fun l hl => ?_⟩, ⟨z'', (sb.2 _ S.TIz).trans (hk _ _ S.TIz S.TITO S.TIi1 S.TIi2 hTI), ⟨_, _, (sb.2 _ S.TOz).trans TO'⟩, st1'.1.at fun o q => (sb.2 _ S.zi1.symm).trans q, st2'.1.at fun o q => (sb.2 _ S.zi2.symm).trans q⟩, fun c hcm => ?_⟩
    · rw [I.list_inj hl hqx]; exact hx
    · rw [I.tuple_inj hl hqy]; exact hy
    · rw [upd_ne (fresh c hcm)]
      exact (hf c hcm).1
  done := by
    intro X hP hw hK hc i pins s σ H E I hf st hg
    subst hP hw hK
    obtain ⟨hz, hTI, ⟨x0, y0, hTO⟩, h1, h2⟩ := st
    obtain ⟨xs, ys, hqx, hqy, hi1, hi2, hend⟩ := hg
    obtain ⟨its, rv, p, _⟩ := I.list hqx
    obtain ⟨its2, rv2, p2, _⟩ := I.tuple hqy
    have l1 := rv.length
    have l2 := rv2.length
    have hh : X.A.in1.handled = none := I.ok.hd hc
    exact wpAny_pyNext_zipD2_end S (Draws.list hh i1 a na its.toArray) (Draws.tuple hh i2 b nb its2.toArray) hz hTI hTO ⟨h1, p.isList⟩ ⟨h2, p2⟩ (by simp; omega) (by simp; omega) (by simp; omega) fun h' tk hk =>
      ⟨rfl, I.turnedL (t' := tk) (ch := zmCells z TI TO i1 i2) (fun c o hb q => hk c o (fun e => hb (by simp [e])) (fun e => hb (by simp [e])) (fun e => hb (by simp [e])) (fun e => hb (by simp [e])) q) hf⟩
  self := fun A i s Q E st h => wpAny_pyIter_zip st.1 h
end
/-- zip(list, tuple) -/
def iZM (K : PySem.W.Frag) (ta : TA) : TI := fun σ H R => ta σ H fun vs H1 => ∃ a b xs ys, vs = [.ref a, .ref b] ∧ SqL K H1 a xs ∧ SqT K H1 b ys ∧ R (ItZM K a b) H1
theorem pi_zm {X : Cx} {e e2 : Expr} {ta : TA} {p pos tpos : Pos} {elts : List Expr} {kk : Nat} (hg : Gl X "zip") (hm : X.mg "zip" = none) (ha : PA X [e, e2] ta)
    (hs : starEach [e, e2] X.env = (false, eval e X.env) :: starEach [e2] X.env := by rfl) (hpl : (backTo pos (starEach [e2] X.env)).any (·.1) = false := by rfl) :
    PI X (.Tuple elts kk tpos) (.Call (.Name "zip" p) [e, e2] [] pos) (iZM X.K ta) := by
  refine ⟨fun pins s σ H R I h => Call_ (ld_blt I hg hm PyProof.Rows.boot_zip (PyProof.Rows.callWith_type1 (thn (ha.run pos pins s σ H _ I h) fun us s1 ⟨vs, H1, I1, r1, q1⟩ => ?_) hs hpl))⟩
  obtain ⟨a, b, xs, ys, ex, hqx, hqy, q⟩ := q1
  subst ex
  cases r1 with
  | cons r rr =>
    cases rr with
    | cons r' rr =>
      cases rr
      cases r
      cases r'
      obtain ⟨its, rv, p1, _⟩ := I1.list hqx
      obtain ⟨its2, rv2, p2, _⟩ := I1.tuple hqy
      obtain ⟨o2, ho2, _⟩ := id p2
      have la := p1.lt
      have lb : b < s1.heap.objs.size := Heap.lt_size ho2
      have fp : ∀ c ∈ zmCells (s1.heap.objs.size + 4) (s1.heap.objs.size + 2) (s1.heap.objs.size + 3) s1.heap.objs.size (s1.heap.objs.size + 1), FpOk X pins H1 c := fun c hcm => by
        have hle : s1.heap.objs.size ≤ c := by
          rcases zm_mem hcm with q | q | q | q | q
          · rw [q]; exact Nat.le_add_right _ _
          · rw [q]; exact Nat.le_add_right _ _
          · rw [q]; exact Nat.le_add_right _ _
          · rw [q]; exact Nat.le_refl _
          · rw [q]; exact Nat.le_add_right _ _
        exact I1.fpOk hle (I1.hok.fresh hle)
      have S : ZipSep2 (s1.heap.objs.size + 4) (s1.heap.objs.size + 2) (s1.heap.objs.size + 3) s1.heap.objs.size (s1.heap.objs.size + 1) [s1.heap.objs.size, a] [s1.heap.objs.size + 1, b] :=
        zip_sep2 (fun c h => by rw [List.mem_singleton.mp h]; exact la) (fun c h => by rw [List.mem_singleton.mp h]; exact lb)
      have nb : b ≠ s1.heap.objs.size + 1 := Nat.ne_of_lt (Nat.lt_succ_of_lt lb)
      have T := turn_zm (P := X.prog) (w := X.w) (K := X.K) (elts := elts) (kk := kk) (tpos := tpos) S (Nat.ne_of_lt la) nb
      refine zip_begins2 (begins_list a its.toArray) (begins_tuple b its2.toArray) p1.isList p2 fun h' hz hTI hTO h1 h2 hsz hk => wpAny_pyIter_zip hz ?_
      have I2 : L2.Inv X pins σ H1 { s1 with heap := h' } := I1.kept (t' := s1.toks) hk
      exact ⟨s1.heap.objs.size + 4, zmCells (s1.heap.objs.size + 4) (s1.heap.objs.size + 2) (s1.heap.objs.size + 3) s1.heap.objs.size (s1.heap.objs.size + 1), _, ItZM X.K a b, H1, rfl, I2, T,
        ⟨hz, hTI, ⟨_, _, hTO⟩, ⟨_, h1, rfl, rfl⟩, ⟨_, h2, rfl, rfl⟩⟩, fp, q⟩
end Ms
namespace Ms
open PySem PySem.Spec PyProof.Rows L2
/-! ### _law_settings -/
/-- pairs of a text and an int, each a tuple of its own -/
inductive Prs (H : Hp) : List Addr → List (Str × Int) → Prop
  | nil : Prs H [] []
  | cons {a : Addr} {as : List Addr} {y : Str} {k : Int} {ys : List (Str × Int)} : H a = some (.tup [.str y, .int k]) → Prs H as ys → Prs H (a :: as) ((y, k) :: ys)
theorem Prs.same {H H' : Hp} {as : List Addr} {ys : List (Str × Int)} (s : ∀ b o, b ∈ as → H b = some o → H' b = some o) (p : Prs H as ys) : Prs H' as ys := by
  induction p with
  | nil => exact .nil
  | cons h _ ih => exact .cons (s _ _ (List.mem_cons_self ..) h) (ih fun b o hb => s b o (List.mem_cons_of_mem _ hb))
theorem Prs.snoc {H : Hp} {as : List Addr} {ys : List (Str × Int)} {a : Addr} {y : Str} {k : Int} (p : Prs H as ys) (h : H a = some (.tup [.str y, .int k])) : Prs H (as ++ [a]) (ys ++ [(y, k)]) := by
  induction p with
  | nil => exact .cons h .nil
  | cons h' _ ih => exact .cons h' ih
theorem Prs.length {H : Hp} {as : List Addr} {ys : List (Str × Int)} (p : Prs H as ys) : as.length = ys.length := by
  induction p with
  | nil => rfl
  | cons _ _ ih => simp [ih]
theorem Prs.live {H : Hp} {as : List Addr} {ys : List (Str × Int)} (p : Prs H as ys) : ∀ a ∈ as, ∃ y k, H a = some (.tup [.str y, .int k]) := by
  induction p with
  | nil => intro a h; cases h
  | cons h' _ ih =>
    intro b hb
    rcases List.mem_cons.mp hb with rfl | hb
    · exact ⟨_, _, h'⟩
    · exact ih b hb
theorem Prs.get {H : Hp} {as : List Addr} {ys : List (Str × Int)} (p : Prs H as ys) : ∀ {i : Nat} {a : Addr}, as[i]? = some a → ∃ y k, ys[i]? = some (y, k) ∧ H a = some (.tup [.str y, .int k]) := by
  induction p with
  | nil => intro i a h; simp at h
  | cons h' _ ih =>
    intro i b hb
    cases i with
    | zero => simp at hb; subst hb; exact ⟨_, _, rfl, h'⟩
    | succ i => exact ih (by simpa using hb)
/-- the data of such pairs -/
def prD (ys : List (Str × Int)) : List PyData := ys.map fun q => .tuple [.str q.1, .int q.2]
theorem Prs.dq {K : PySem.W.Frag} {H : Hp} {m l : Addr} {as : List Addr} {ys : List (Str × Int)} (p : Prs H as ys) : DqAll K H m l (as.map V.ref) (prD ys) := by
  induction p with
  | nil => exact .nil
  | cons h _ ih => exact .cons (.tup (.inl (.inl h)) (.cons (.str _) (.cons (.int _) .nil))) ih
theorem Fr.trail {m l l' : Addr} {H H1 H2 : Hp} (f : Fr m l l' H H1) (s : Same H1 H2) : Fr m l l' H H2 :=
  ⟨fun b o e h1 h2 => s _ _ (f.keep b o e h1 h2), f.new, fun b h => by
    cases q : H1 b with
    | none => exact absurd q (f.dom b h)
    | some o => rw [s _ _ q]; exact fun z => nomatch z⟩
/-- how often each may stand: one to three small ints -/
def Mo (H : Hp) (a : Addr) : Prop := ∃ ms : List Int, H a = some (.tup (ms.map V.int)) ∧ 1 ≤ ms.length ∧ ms.length ≤ 3 ∧ ∀ x ∈ ms, 1 ≤ x ∧ x ≤ 3
theorem Mo.same {H H' : Hp} {a : Addr} (s : Same H H') (h : Mo H a) : Mo H' a := by
  obtain ⟨ms, e, r⟩ := h
  exact ⟨ms, s _ _ e, r⟩
section
variable {P : Program} {w : World} {K : PySem.W.Frag} {mg : Str → Option Value} {base : Heap} {fN fM : Addr}
structure TxtS (mg : Str → Option Value) (fN fM : Addr) : Prop extends TxtN mg fN where
  names : mg "_law_names" = some (.ref fM)
abbrev NS : List Str := ["m", "mosts", "some", "name", "most"]
theorem scSt : FnScope NS ["m"] (defScope sSettings) := ⟨rfl, rfl, rfl, by decide +kernel, rfl, by decide +kernel, by decide +kernel⟩
/-- good pairs: names of at most 16 signs, small numbers -/
def okP (ys : List (Str × Int)) : Prop := ∀ q ∈ ys, sOk 16 q.1 ∧ 1 ≤ q.2 ∧ q.2 ≤ 3
def spSettings : Sp := fun vs H Q _ => ∃ (m l : Addr) (n : Nat), vs = [.ref m] ∧ Mch H m l n ∧ n < 800000 ∧
  ∀ (p : Addr) (as : List Addr) (ys : List (Str × Int)) (l' : Addr) (H' : Hp), H' p = some (.tup (as.map V.ref)) → Prs H' as ys → 1 ≤ ys.length → ys.length ≤ 3 → okP ys → Mch H' m l' (n + 12) → Fr m l l' H H' → Q (.ref p) H'
theorem ok_settings {f : Addr} {fd fdN fdM : FuncData} (F : Fun K "_law_settings" "_law_settings" sSettings f fd) (T : TxtS mg fN fM) (FN : Fun K "_law_next" "_law_next" sNext fN fdN) (bN : Binds K fdN ["m", "many"] [])
    (FM : Fun K "_law_names" "_law_names" sNames fM fdM) (bM : Binds K fdM ["m", "many"] []) : FnOk P w K mg base CX0 3 f fd ["m"] spSettings := by
  have GN : FnOk P w K mg base CX0 2 fN fdN ["m", "many"] spNext := (ok_next FN T.toTxt).mono (by decide)
  have GM : FnOk P w K mg base CX0 2 fM fdM ["m", "many"] spNames := ok_names FM T.toTxtN FN bN
  refine F.ok scSt (fun vs H Q E h => ?_) (fun cdv A outer s H vs Q E hr h => ?_)
  · obtain ⟨m, l, n, rfl, _⟩ := h
    rfl
  · obtain ⟨m, l, n, rfl, M, hn, q⟩ := h
    refine ⟨_, pss_cons (ps_set (i := 1) scSt.nd rfl (by first | exact Or.inl rfl | exact Or.inr rfl) (pe_lst (pa_cons (pe_tup (pa_cons pe_int pa_nil)) (pa_cons (pe_tup (pa_cons pe_int pa_nil)) (pa_cons (pe_tup (pa_cons pe_int pa_nil)) (pa_cons (pe_tup (pa_cons pe_int (pa_cons pe_int pa_nil))) (pa_cons (pe_tup (pa_cons pe_int (pa_cons pe_int pa_nil))) (pa_cons (pe_tup (pa_cons pe_int (pa_cons pe_int pa_nil))) (pa_cons (pe_tup (pa_cons pe_int (pa_cons pe_int pa_nil))) (pa_cons (pe_tup (pa_cons pe_int (pa_cons pe_int pa_nil))) (pa_cons (pe_tup (pa_cons pe_int (pa_cons pe_int pa_nil))) (pa_cons (pe_tup (pa_cons pe_int (pa_cons pe_int (pa_cons pe_int pa_nil)))) (pa_cons (pe_tup (pa_cons pe_int (pa_cons pe_int (pa_cons pe_int pa_nil)))) (pa_cons (pe_tup (pa_cons pe_int (pa_cons pe_int (pa_cons pe_int pa_nil)))) pa_nil))))))))))))))
      (pss_cons (ps_set (i := 2) scSt.nd rfl (by first | exact Or.inl rfl | exact Or.inr rfl) (pe_ix ix_list (pv 1) (pe_call GN hr rfl T.next FN.kp bN .nil pass0 (pa_cons (pv 0) (pa_cons pe_int pa_nil))) (fun _ _ => rfl)))
      (pss_one (ps_ret (pe_callTy call_tuple_of (by rfl) T.tuple (by decide +kernel) (pa_cons (pe_lc (own := [("name", 3), ("most", 4)]) (g := gTup K 2 (gCons (gName 3) (gCons (gName 4) gNil))) (by rfl) scSt.nd
        (pi_zm (by rfl) T.zip (pa_cons (pe_call GM hr rfl T.names FM.kp bM .nil pass0 (pa_cons (pv 0) (pa_cons (pe_callB call_len (by rfl) T.len PySem.boot_len (pa_cons (pv 2) pa_nil)) pa_nil))) (pa_cons (pv 2) pa_nil)))
        (blkOk_by (own := [("name", 3), ("most", 4)]) (N := NS) (sc := defScope sSettings) (by decide +kernel))
        (fun _ _ _ _ _ => pg_tup rfl (pgs_cons (pg_name (i := 3) scSt.nd rfl (Or.inl rfl)) (pgs_cons (pg_name (i := 4) scSt.nd rfl (Or.inl rfl)) pgs_nil))) (fun _ _ _ _ _ => pts_nil)
        (fun _ _ _ _ _ => pe_tup (pa_cons (pv 3) (pa_cons (pv 4) pa_nil)))) pa_nil))))), ?_⟩
    refine ⟨(by show 1 ≤ sizeLine; decide), fun p1 h1 => ?_⟩
    obtain ⟨G1, e1⟩ : ∃ G, G = upd H p1 (.tup [.int 1]) := ⟨_, rfl⟩
    rw [← e1]
    have s1 : Same H G1 := e1 ▸ Same.upd h1
    have M1 := M.same s1
    have f1 : Fr m l l H G1 := e1 ▸ (Fr.refl M).junk h1
    have a1_1 : Mo G1 p1 := ⟨[1], by rw [e1, upd_same]; rfl, by decide, by decide, by decide⟩
    refine ⟨(by show 1 ≤ sizeLine; decide), fun p2 h2 => ?_⟩
    obtain ⟨G2, e2⟩ : ∃ G, G = upd G1 p2 (.tup [.int 2]) := ⟨_, rfl⟩
    rw [← e2]
    have s2 : Same G1 G2 := e2 ▸ Same.upd h2
    have M2 := M1.same s2
    have f2 : Fr m l l H G2 := e2 ▸ f1.junk h2
    have a2_2 : Mo G2 p2 := ⟨[2], by rw [e2, upd_same]; rfl, by decide, by decide, by decide⟩
    have a1_2 := a1_1.same s2
    refine ⟨(by show 1 ≤ sizeLine; decide), fun p3 h3 => ?_⟩
    obtain ⟨G3, e3⟩ : ∃ G, G = upd G2 p3 (.tup [.int 3]) := ⟨_, rfl⟩
    rw [← e3]
    have s3 : Same G2 G3 := e3 ▸ Same.upd h3
    have M3 := M2.same s3
    have f3 : Fr m l l H G3 := e3 ▸ f2.junk h3
    have a3_3 : Mo G3 p3 := ⟨[3], by rw [e3, upd_same]; rfl, by decide, by decide, by decide⟩
    have a1_3 := a1_2.same s3
    have a2_3 := a2_2.same s3
    refine ⟨(by show 2 ≤ sizeLine; decide), fun p4 h4 => ?_⟩
    obtain ⟨G4, e4⟩ : ∃ G, G = upd G3 p4 (.tup [.int 1, .int 1]) := ⟨_, rfl⟩
    rw [← e4]
    have s4 : Same G3 G4 := e4 ▸ Same.upd h4
    have M4 := M3.same s4
    have f4 : Fr m l l H G4 := e4 ▸ f3.junk h4
    have a4_4 : Mo G4 p4 := ⟨[1, 1], by rw [e4, upd_same]; rfl, by decide, by decide, by decide⟩
    have a1_4 := a1_3.same s4
    have a2_4 := a2_3.same s4
    have a3_4 := a3_3.same s4
    refine ⟨(by show 2 ≤ sizeLine; decide), fun p5 h5 => ?_⟩
    obtain ⟨G5, e5⟩ : ∃ G, G = upd G4 p5 (.tup [.int 1, .int 2]) := ⟨_, rfl⟩
    rw [← e5]
    have s5 : Same G4 G5 := e5 ▸ Same.upd h5
    have M5 := M4.same s5
    have f5 : Fr m l l H G5 := e5 ▸ f4.junk h5
    have a5_5 : Mo G5 p5 := ⟨[1, 2], by rw [e5, upd_same]; rfl, by decide, by decide, by decide⟩
    have a1_5 := a1_4.same s5
    have a2_5 := a2_4.same s5
    have a3_5 := a3_4.same s5
    have a4_5 := a4_4.same s5
    refine ⟨(by show 2 ≤ sizeLine; decide), fun p6 h6 => ?_⟩
    obtain ⟨G6, e6⟩ : ∃ G, G = upd G5 p6 (.tup [.int 2, .int 1]) := ⟨_, rfl⟩
    rw [← e6]
    have s6 : Same G5 G6 := e6 ▸ Same.upd h6
    have M6 := M5.same s6
    have f6 : Fr m l l H G6 := e6 ▸ f5.junk h6
    have a6_6 : Mo G6 p6 := ⟨[2, 1], by rw [e6, upd_same]; rfl, by decide, by decide, by decide⟩
    have a1_6 := a1_5.same s6
    have a2_6 := a2_5.same s6
    have a3_6 := a3_5.same s6
    have a4_6 := a4_5.same s6
    have a5_6 := a5_5.same s6
    refine ⟨(by show 2 ≤ sizeLine; decide), fun p7 h7 => ?_⟩
    obtain ⟨G7, e7⟩ : ∃ G, G = upd G6 p7 (.tup [.int 2, .int 2]) := ⟨_, rfl⟩
    rw [← e7]
    have s7 : Same G6 G7 := e7 ▸ Same.upd h7
    have M7 := M6.same s7
    have f7 : Fr m l l H G7 := e7 ▸ f6.junk h7
    have a7_7 : Mo G7 p7 := ⟨[2, 2], by rw [e7, upd_same]; rfl, by decide, by decide, by decide⟩
    have a1_7 := a1_6.same s7
    have a2_7 := a2_6.same s7
    have a3_7 := a3_6.same s7
    have a4_7 := a4_6.same s7
    have a5_7 := a5_6.same s7
    have a6_7 := a6_6.same s7
    refine ⟨(by show 2 ≤ sizeLine; decide), fun p8 h8 => ?_⟩
    obtain ⟨G8, e8⟩ : ∃ G, G = upd G7 p8 (.tup [.int 1, .int 3]) := ⟨_, rfl⟩
    rw [← e8]
    have s8 : Same G7 G8 := e8 ▸ Same.upd h8
    have M8 := M7.same s8
    have f8 : Fr m l l H G8 := e8 ▸ f7.junk h8
    have a8_8 : Mo G8 p8 := ⟨[1, 3], by rw [e8, upd_same]; rfl, by decide, by decide, by decide⟩
    have a1_8 := a1_7.same s8
    have a2_8 := a2_7.same s8
    have a3_8 := a3_7.same s8
    have a4_8 := a4_7.same s8
    have a5_8 := a5_7.same s8
    have a6_8 := a6_7.same s8
    have a7_8 := a7_7.same s8
    refine ⟨(by show 2 ≤ sizeLine; decide), fun p9 h9 => ?_⟩
    obtain ⟨G9, e9⟩ : ∃ G, G = upd G8 p9 (.tup [.int 3, .int 2]) := ⟨_, rfl⟩
    rw [← e9]
    have s9 : Same G8 G9 := e9 ▸ Same.upd h9
    have M9 := M8.same s9
    have f9 : Fr m l l H G9 := e9 ▸ f8.junk h9
    have a9_9 : Mo G9 p9 := ⟨[3, 2], by rw [e9, upd_same]; rfl, by decide, by decide, by decide⟩
    have a1_9 := a1_8.same s9
    have a2_9 := a2_8.same s9
    have a3_9 := a3_8.same s9
    have a4_9 := a4_8.same s9
    have a5_9 := a5_8.same s9
    have a6_9 := a6_8.same s9
    have a7_9 := a7_8.same s9
    have a8_9 := a8_8.same s9
    refine ⟨(by show 3 ≤ sizeLine; decide), fun p10 h10 => ?_⟩
    obtain ⟨G10, e10⟩ : ∃ G, G = upd G9 p10 (.tup [.int 1, .int 1, .int 1]) := ⟨_, rfl⟩
    rw [← e10]
    have s10 : Same G9 G10 := e10 ▸ Same.upd h10
    have M10 := M9.same s10
    have f10 : Fr m l l H G10 := e10 ▸ f9.junk h10
    have a10_10 : Mo G10 p10 := ⟨[1, 1, 1], by rw [e10, upd_same]; rfl, by decide, by decide, by decide⟩
    have a1_10 := a1_9.same s10
    have a2_10 := a2_9.same s10
    have a3_10 := a3_9.same s10
    have a4_10 := a4_9.same s10
    have a5_10 := a5_9.same s10
    have a6_10 := a6_9.same s10
    have a7_10 := a7_9.same s10
    have a8_10 := a8_9.same s10
    have a9_10 := a9_9.same s10
    refine ⟨(by show 3 ≤ sizeLine; decide), fun p11 h11 => ?_⟩
    obtain ⟨G11, e11⟩ : ∃ G, G = upd G10 p11 (.tup [.int 1, .int 2, .int 1]) := ⟨_, rfl⟩
    rw [← e11]
    have s11 : Same G10 G11 := e11 ▸ Same.upd h11
    have M11 := M10.same s11
    have f11 : Fr m l l H G11 := e11 ▸ f10.junk h11
    have a11_11 : Mo G11 p11 := ⟨[1, 2, 1], by rw [e11, upd_same]; rfl, by decide, by decide, by decide⟩
    have a1_11 := a1_10.same s11
    have a2_11 := a2_10.same s11
    have a3_11 := a3_10.same s11
    have a4_11 := a4_10.same s11
    have a5_11 := a5_10.same s11
    have a6_11 := a6_10.same s11
    have a7_11 := a7_10.same s11
    have a8_11 := a8_10.same s11
    have a9_11 := a9_10.same s11
    have a10_11 := a10_10.same s11
    refine ⟨(by show 3 ≤ sizeLine; decide), fun p12 h12 => ?_⟩
    obtain ⟨G12, e12⟩ : ∃ G, G = upd G11 p12 (.tup [.int 1, .int 1, .int 2]) := ⟨_, rfl⟩
    rw [← e12]
    have s12 : Same G11 G12 := e12 ▸ Same.upd h12
    have M12 := M11.same s12
    have f12 : Fr m l l H G12 := e12 ▸ f11.junk h12
    have a12_12 : Mo G12 p12 := ⟨[1, 1, 2], by rw [e12, upd_same]; rfl, by decide, by decide, by decide⟩
    have a1_12 := a1_11.same s12
    have a2_12 := a2_11.same s12
    have a3_12 := a3_11.same s12
    have a4_12 := a4_11.same s12
    have a5_12 := a5_11.same s12
    have a6_12 := a6_11.same s12
    have a7_12 := a7_11.same s12
    have a8_12 := a8_11.same s12
    have a9_12 := a9_11.same s12
    have a10_12 := a10_11.same s12
    have a11_12 := a11_11.same s12
    refine ⟨(by show 12 ≤ sizeLine; decide), fun D hD => ?_⟩
    obtain ⟨G, eG⟩ : ∃ G, G = upd G12 D (.lst [.ref p1, .ref p2, .ref p3, .ref p4, .ref p5, .ref p6, .ref p7, .ref p8, .ref p9, .ref p10, .ref p11, .ref p12]) := ⟨_, rfl⟩
    rw [← eG]
    have sG : Same G12 G := eG ▸ Same.upd hD
    have nD := M12.ne hD
    have MG := M12.same sG
    have fG : Fr m l l H G := eG ▸ f12.junk hD
    have gD : G D = some (.lst [.ref p1, .ref p2, .ref p3, .ref p4, .ref p5, .ref p6, .ref p7, .ref p8, .ref p9, .ref p10, .ref p11, .ref p12]) := by rw [eG, upd_same]
    have pick : ∀ r : Int, 0 ≤ r → r < 12 → ∃ a, atI ([.ref p1, .ref p2, .ref p3, .ref p4, .ref p5, .ref p6, .ref p7, .ref p8, .ref p9, .ref p10, .ref p11, .ref p12] : List V) r = some (.ref a) ∧ Mo G a := by
      intro r h0 h1
      obtain ⟨j, rfl⟩ : ∃ j : Nat, r = (j : Int) := ⟨r.toNat, by omega⟩
      have hj : j < 12 := by omega
      match j, hj with
      | 0, _ => exact ⟨p1, rfl, a1_12.same sG⟩
      | 1, _ => exact ⟨p2, rfl, a2_12.same sG⟩
      | 2, _ => exact ⟨p3, rfl, a3_12.same sG⟩
      | 3, _ => exact ⟨p4, rfl, a4_12.same sG⟩
      | 4, _ => exact ⟨p5, rfl, a5_12.same sG⟩
      | 5, _ => exact ⟨p6, rfl, a6_12.same sG⟩
      | 6, _ => exact ⟨p7, rfl, a7_12.same sG⟩
      | 7, _ => exact ⟨p8, rfl, a8_12.same sG⟩
      | 8, _ => exact ⟨p9, rfl, a9_12.same sG⟩
      | 9, _ => exact ⟨p10, rfl, a10_12.same sG⟩
      | 10, _ => exact ⟨p11, rfl, a11_12.same sG⟩
      | 11, _ => exact ⟨p12, rfl, a12_12.same sG⟩
    clear e1 s1 M1 f1 e2 s2 M2 f2 e3 s3 M3 f3 e4 s4 M4 f4 e5 s5 M5 f5 e6 s6 M6 f6 e7 s7 M7 f7 e8 s8 M8 f8 e9 s9 M9 f9 e10 s10 M10 f10 e11 s11 M11 f11 a1_1 a1_2 a2_2 a1_3 a2_3 a3_3 a1_4 a2_4 a3_4 a4_4 a1_5 a2_5 a3_5 a4_5 a5_5 a1_6 a2_6 a3_6 a4_6 a5_6 a6_6 a1_7 a2_7 a3_7 a4_7 a5_7 a6_7 a7_7 a1_8 a2_8 a3_8 a4_8 a5_8 a6_8 a7_8 a8_8 a1_9 a2_9 a3_9 a4_9 a5_9 a6_9 a7_9 a8_9 a9_9 a1_10 a2_10 a3_10 a4_10 a5_10 a6_10 a7_10 a8_10 a9_10 a10_10 a1_11 a2_11 a3_11 a4_11 a5_11 a6_11 a7_11 a8_11 a9_11 a10_11 a11_11 a1_12 a2_12 a3_12 a4_12 a5_12 a6_12 a7_12 a8_12 a9_12 a10_12 a11_12 a12_12
    refine ⟨_, rfl, _, rfl, m, l, n, 12, rfl, MG, by omega, by decide, by decide, fun r l1 H1 r0 r1 M1 f1' => ?_⟩
    obtain ⟨a, ha, mo⟩ := pick r r0 r1
    refine ⟨D, _, r, .ref a, rfl, rfl, SqL.of (f1'.keep D _ gD nD.1 nD.2), ha, ?_⟩
    obtain ⟨ms, hms, ml1, ml3, msok⟩ := mo
    have am : a ≠ m ∧ a ≠ l := by
      obtain ⟨c, cs, ls, z, dm, dc, dl, _⟩ := MG.ex
      exact ⟨ne_of hms dm (by intro q; cases q), ne_of hms dl (by intro q; cases q)⟩
    have ka : H1 a = some (.tup (ms.map V.int)) := f1'.keep a _ hms am.1 am.2
    have F1 : Fr m l l1 H H1 := fG.trans f1'
    clear pick gD eG sG MG fG hD e12 s12 M12 f12 h12 h11 h10 h9 h8 h7 h6 h5 h4 h3 h2 h1 ha f1' hms
    have lenA : ((ms.map V.int).length : Nat) = ms.length := List.length_map ..
    refine ⟨_, rfl, _, rfl, _, _, rfl, .inr ⟨_, SqT.of ka, rfl⟩, ?_⟩
    refine ⟨m, l1, n + 1, (ms.map V.int).length, rfl, M1, by omega, by omega, by omega, fun N ys l2 H2 hN gN yl yo nm nl M2 f2 => ?_⟩
    have F2 := F1.trans f2
    have ka2 : H2 a = some (.tup (ms.map V.int)) := f2.keep a _ ka am.1 (by
      obtain ⟨c, cs, ls, z, dm, dc, dl, _⟩ := M1.ex
      exact ne_of ka dl (by intro q; cases q))
    refine ⟨_, rfl, N, a, _, _, rfl, SqL.of gN, .inl (.inl ka2), fun D2 hD2 => ?_⟩
    have yl' : ys.length = ms.length := yl.trans lenA
    refine lc_it (walk_zm (xs := ys.map V.str) (ys := ms.map V.int) (n := ms.length) (by simp [yl'])) (fun i H3 => ∃ as : List Addr, as.length = i ∧ Prs H3 as ((ys.zip ms).take i) ∧ (∀ b ∈ as, b ≠ D2) ∧ H3 D2 = some (.lst (as.map V.ref)) ∧ Same H2 H3)
      ⟨[], rfl, .nil, (fun _ hb => nomatch hb), upd_same, Same.upd hD2⟩ (fun i H3 _ ⟨as, _, _, _, _, s3⟩ => ⟨SqL.of (s3 _ _ gN), SqT.of (s3 _ _ ka2)⟩) ?_ ?_
    · rintro i x H3 H4 hi ⟨as, al, pr, nd, gd, s3⟩ ⟨T, x1, x2, rfl, hT, rfl, e1, e2⟩
      have hy : i < ys.length := by omega
      have e1' : x1 = .str ys[i] := by simp [hy] at e1; exact e1.symm
      have e2' : x2 = .int ms[i] := by simp [hi] at e2; exact e2.symm
      subst e1' e2'
      refine ⟨T, _, rfl, .inl (.inl upd_same), rfl, _, _, rfl, _, _, rfl, rfl, rfl, tyes ?_⟩
      refine ⟨_, rfl, _, rfl, (by show 2 ≤ sizeLine; decide), fun p hp => ?_⟩
      have sT : Same H3 (upd H3 T (.tup [.str ys[i], .int ms[i]])) := Same.upd hT
      have sp : Same (upd H3 T (.tup [.str ys[i], .int ms[i]])) (upd (upd H3 T (.tup [.str ys[i], .int ms[i]])) p (.tup [.str ys[i], .int ms[i]])) := Same.upd hp
      have nDp : p ≠ D2 := fun e => by rw [e, sT _ _ gd] at hp; cases hp
      refine ⟨_, sp _ _ (sT _ _ gd), small1000 (by rw [List.length_map]; omega), as ++ [p], by simp [al], ?_, ?_, ?_, ?_⟩
      · rw [List.take_succ]
        have ez : (ys.zip ms)[i]? = some (ys[i], ms[i]) := by rw [List.getElem?_zip_eq_some]; exact ⟨List.getElem?_eq_getElem hy, List.getElem?_eq_getElem hi⟩
        rw [ez]
        refine Prs.snoc (Prs.same (fun b o hb e => ?_) pr) ?_
        · rw [upd_ne (nd b hb)]; exact sp _ _ (sT _ _ e)
        · rw [upd_ne nDp, upd_same]
      · intro b hb
        rcases List.mem_append.mp hb with hb | hb
        · exact nd b hb
        · rw [List.mem_singleton.mp hb]; exact nDp
      · rw [upd_same, List.map_append]; rfl
      · intro b o e
        have nb : b ≠ D2 := ne_of_none e hD2
        rw [upd_ne nb]; exact sp _ _ (sT _ _ (s3 _ _ e))
    · rintro H3 ⟨as, al, pr, nd, gd, s3⟩
      have lz : (ys.zip ms).length = ms.length := by simp [yl']
      rw [List.take_of_length_le (by omega)] at pr
      refine ⟨D2, _, rfl, .inl ⟨SqL.of gd, fun p hp => ?_⟩⟩
      have sp : Same H3 (upd H3 p (.tup (as.map V.ref))) := Same.upd hp
      refine q p as (ys.zip ms) l2 _ upd_same (pr.same fun b o _ e => sp b o e) (by omega) (by omega) (fun y hy => ?_) ((((M2.same s3).same sp)).mono (by omega)) ((F2.trail s3).trail sp)
      have := List.of_mem_zip hy
      exact ⟨yo _ this.1, msok _ this.2⟩
end
end Ms
namespace Ms
open PySem PySem.Spec PyProof.Rows L2
abbrev big : Nat := 10 ^ 30
def gdB (B a b : Nat) (d : PyData) : Bool := okD B d && (decide (d.weight ≤ a) && decide (d.depth ≤ b))
theorem gd_of {B a b : Nat} {d : PyData} (h : gdB B a b d = true) : Gd B a b d := by
  unfold gdB at h
  simp only [Bool.and_eq_true, decide_eq_true_eq] at h
  exact ⟨h.1, h.2.1, h.2.2⟩
end Ms
namespace Ms
open PySem PySem.Spec PyProof.Rows L2
/-! ### two rules over tuples -/
/-- t == (), whatever the items are -/
theorem op_eq_nil {X : Cx} (hu : X.A.units + 64 < cLine) : OpR X (compareOp .Eq) (fun x y H Q => ∃ a b xs, x = .ref a ∧ y = .ref b ∧ SqT X.K H a xs ∧ SqT X.K H b [] ∧ Q (.bl (xs.length == 0)) H) := by
  intro pins s σ H x y v u Q I rx ry h
  obtain ⟨a, b, xs, rfl, rfl, ha, hb, q⟩ := h
  cases rx
  cases ry
  obtain ⟨its, r1, p1, _⟩ := I.tuple ha
  obtain ⟨its2, r2, p2, _⟩ := I.tuple hb
  cases r2
  have hl := r1.length
  refine SeqAt.eq_tupleAt (e := fun _ => true) p1 p2 (by omega) (fun j h1 h2 => by simp at h2) ?_
  refine ⟨.bl _, H, I, rfl, ?_⟩
  have e : ((List.range (min its.toArray.size ([] : List Value).toArray.size)).all (fun _ => true) && its.toArray.size == ([] : List Value).toArray.size) = (xs.length == 0) := by
    rw [hl]; simp
  rw [e]; exact q
section
variable {prog : Program} {w : World} {A : Around} {E : Value → Shared → Prop} {s : Shared}
theorem places_rev (n : Nat) : Builtin.Slice.slicePlaces ((n : Int) - 1) (-1) (-1) = n := by
  unfold Builtin.Slice.slicePlaces
  have h1 : ¬ ((-1 : Int) > 0) := by decide
  have h2 : (- -1 : Int) = 1 := by decide
  simp only [h1, if_false, h2, Int.ediv_one]
  split <;> omega
theorem applied_rev {sl : Addr} {vs : Value} {n : Nat} {Q : Int × Int × Nat → Shared → Prop} (hs : s.heap.IsSliceOf sl .none .none vs) (ps : IsPart vs (some (-1)))
    (h : Q ((n : Int) - 1, -1, n) s) : wpAny (model prog w) A (Builtin.Slice.sliceApplied (.ref sl) (pure (n : Int))) Q E s := by
  obtain ⟨os, hos, hcs, hds⟩ := id hs
  unfold Builtin.Slice.sliceApplied Builtin.Slice.sliceFields
  refine wpAny_bind (wpAny_bind (wpAny_field hos hds (x := .none) rfl (wpAny_bind (wpAny_field hos hds (x := .none) rfl (wpAny_bind (wpAny_field hos hds (x := vs) rfl (wpAny_pure ?_)))))))
  refine wpAny_bind (HT.slicePart_ ps ?_)
  show wpAny _ _ (if ((-1 : Int) == 0) = true then _ else _) _ _ s
  rw [if_neg (by decide)]
  refine wpAny_bind (HT.slicePart_ .none (wpAny_bind (HT.slicePart_ .none (wpAny_bind (wpAny_pure ?_)))))
  show wpAny _ _ (pure ((n : Int) - 1, (-1 : Int), Builtin.Slice.slicePlaces ((n : Int) - 1) (-1) (-1))) _ _ s
  rw [places_rev]
  exact wpAny_pure h
theorem pick_rev (xs : Array Value) : ((List.range xs.size).filterMap fun (m : Nat) => xs[((xs.size : Int) - 1 + (m : Int) * (-1)).toNat]?).toArray = xs.toList.reverse.toArray := by
  have e : (List.range xs.size).filterMap (fun (m : Nat) => xs[((xs.size : Int) - 1 + (m : Int) * (-1)).toNat]?) = ((List.range xs.size).map fun k => xs.size - 1 - k).filterMap (xs[·]?) := by
    have g : ∀ (f : Nat → Option Value), (List.range xs.size).filterMap f = ((List.range xs.size).map f).filterMap id := fun f => by rw [List.filterMap_map]; rfl
    rw [List.filterMap_map, g, g]
    refine congrArg (List.filterMap id) (List.map_congr_left fun m hm => ?_)
    have := List.mem_range.mp hm
    have q : ((xs.size : Int) - 1 + (m : Int) * (-1)).toNat = xs.size - 1 - m := by omega
    show _ = xs[xs.size - 1 - m]?
    rw [q]
  rw [e, PySem.W.krv_range, List.filterMap_reverse, PySem.W.krv_all]
theorem getItem_tuple_rev {t sl : Addr} {items : Array Value} {vs : Value} {Q : Value → Shared → Prop} (ht : IsTup s.heap t items) (hs : s.heap.IsSliceOf sl .none .none vs) (ps : IsPart vs (some (-1)))
    (h : Q (.ref s.heap.objs.size) { s with heap := s.heap.push { cls := .type "tuple", data := .seq items.toList.reverse.toArray } })
    (hsz : items.size ≤ sizeLine) : wpAny (model prog w) A (getItem (.ref t) (.ref sl)) Q E s := by
  have hrev : sizeOk (.seq items.toList.reverse.toArray) := by
    show items.toList.reverse.toArray.size ≤ sizeLine
    simpa using hsz
  obtain ⟨os, hos, hcs, hds⟩ := id hs
  have hTs : s.TypeIs (.ref sl) "slice" := ⟨os, hos, hcs⟩
  have seq : ∀ {Q : Value → Shared → Prop}, wpAny (model prog w) A.in1 (Builtin.«tuple.__getitem__» ⟨[.ref t, .ref sl], []⟩) (fun fin s' => ∃ v, fin = .done (.ret v) ∧ Q v s') E s → wpAny (model prog w) A (getItem (.ref t) (.ref sl)) Q E s := fun {Q} run => by
    unfold getItem
    first | with_reducible apply wpAny_holding | skip
    first | refine wpAny_bind (wpAny_pure (wpAny_bind (wpAny_sequenceKey ht.typeIs (by decide) ?_))) | refine wpAny_bind (wpAny_sequenceKey ht.typeIs (by decide) ?_)
    exact wpAny_bind (wpAny_callSpecial?_slot (name := Str.ofString "__getitem__") ht.typeIs PyProof.Rows.slot_tuple_getitem (wpAny_call_entry PyProof.Rows.slot_tuple_getitem ht.typeIs PyProof.Rows.entry_tuple_getitem (wpAny_mono run (fun fin s1 ⟨v, e, q⟩ => ⟨v, e, wpAny_pure q⟩) (fun _ _ x => x)) (PyProof.Rows.args_tuple_getitem _ _)))
  refine seq ?_
  show wpAny _ _ (Builtin.Tuple.tupleItemsOf (.ref t) >>= _) _ _ s
  refine wpAny_bind (PyProof.Rows.tupleItemsOf_ ht ?_)
  refine wpAny_bind (wpAny_typeOf hTs ?_)
  rw [if_pos (by decide)]
  refine wpAny_bind (applied_rev hs ps ?_)
  have hno : ¬ ((((items.size : Int) - 1) == 0 && (-1 : Int) == 1 && items.size == items.size) = true) := by simp
  show wpAny _ _ (if (((items.size : Int) - 1) == 0 && (-1 : Int) == 1 && items.size == items.size) = true then _ else _) _ _ s
  rw [if_neg hno, pick_rev]
  first
    | exact wpAny_bind (m := Builtin.Tuple.tupleExact _) (wpAny_newObj_type (wpAny_pure ⟨_, rfl, h⟩) hrev)
    | exact wpAny_bind (m := Builtin.Tuple.tupleExact _) (wpAny_newObj_type (wpAny_bind (wpAny_pure (wpAny_pure ⟨_, rfl, h⟩))) hrev)
    | exact wpAny_bind (wpAny_bind (m := Builtin.Tuple.tupleExact _) (wpAny_newObj_type (wpAny_pure (wpAny_pure ⟨_, rfl, h⟩)) hrev))
    | exact wpAny_bind (wpAny_bind (m := Builtin.Tuple.tupleExact _) (wpAny_newObj_type (wpAny_pure ⟨_, rfl, h⟩) hrev))
end
/-- t[::-1] -/
def tRevT (K : PySem.W.Frag) (te : TE) : TE := fun σ H Q => te σ H fun x H1 => ∃ a xs, x = .ref a ∧ SqT K H1 a xs ∧ ∀ p, H1 p = none → Q (.ref p) (upd H1 p (.tup xs.reverse))
theorem pe_revT {X : Cx} {e : Expr} {te : TE} {k : Nat} {p1 p2 p3 pos : Pos} (he : PE X e te) : PE X (.Subscript e (.Slice none none (some (.UnaryOp .USub (.Constant (.int 1) k p1) p2)) p3) pos) (tRevT X.K te) := by
  refine ⟨fun pins s σ H Q I h => Subscript_ (thn (he.run pins s σ H _ I h) fun v s1 ⟨x, H1, I1, r1, q1⟩ => ?_)⟩
  obtain ⟨a, xs, ex, hx, q⟩ := q1
  subst ex
  cases r1
  have hst : PO X (some (.UnaryOp .USub (.Constant (.int 1) k p1) p2)) (tPart (tUn (rU fun i => .int (-i)) (tC (.int 1)))) := po_some (pe_un un_neg pe_int)
  refine wpAny_Slice ?_
  rw [evalPart_none]
  refine wpAny_pure ?_
  refine wpAny_pure ?_
  refine thn (hst.run pins s1 σ H1 (fun o H4 => o = some (-1) ∧ H4 = H1) I1 ⟨1, rfl, -1, rfl, rfl, rfl⟩) fun vs s4 ⟨o, H4, I4, ps, eo, e4⟩ => ?_
  subst eo e4
  have I5 : L2.Inv X pins σ H4 { s4 with heap := s4.heap.push { cls := .type "slice", data := .fields #[.none, .none, vs] } } := I4.kept (t' := s4.toks) fun b ob q => Heap.get?_push_of_some _ q
  obtain ⟨its, r, ht, hz⟩ := I5.tuple hx
  have hlen := r.length
  show wpAny (model X.prog X.w) X.A (subscriptTail e (.Slice none none (some (.UnaryOp .USub (.Constant (.int 1) k p1) p2)) p3) (.ref a) (.ref s4.heap.objs.size)) (EP X pins σ Q) X.xe { s4 with heap := s4.heap.push { cls := .type "slice", data := .fields #[.none, .none, vs] } }
  refine tail_any (ops := [.ref a, .ref s4.heap.objs.size]) ht.typeIs PyProof.Rows.slot_tuple_getitem.lookup ?_ (by with_unfolding_all rfl)
  refine getItem_tuple_rev ht (Heap.IsSliceOf.new _ .none .none vs) ps ?_ (by rw [List.size_toArray]; omega)
  refine ⟨.ref _, _, I5.laid (t' := s4.toks) (o := .tup xs.reverse) (fun b ob q => Heap.get?_push_of_some _ q) (Nat.le_refl _) ?_, rfl, q _ (I5.hok.fresh (Nat.le_refl _))⟩
  exact ⟨by rw [List.length_reverse]; exact hz, _, r.reverse, ⟨_, Heap.get?_push_size _ rfl, rfl, _, rfl⟩⟩
/-! ### the kinds of data -/
def tyD : PyData → String
  | .none => "NoneType"
  | .bool _ => "bool"
  | .int _ => "int"
  | .str _ => "str"
  | .list _ => "list"
  | .tuple _ => "tuple"
  | .dict _ => "dict"
theorem Dq.ty {K : PySem.W.Frag} {H : Hp} {m l : Addr} {v : V} {d : PyData} (h : Dq K H m l v d) : TyX K H v (.type (tyD d)) := by
  cases h with
  | non => exact .base .non
  | bl b => exact .base (.bl b)
  | int i => exact .base (.int i)
  | str x => exact .base (.str x)
  | lst e _ _ _ => exact .base (.lst e)
  | dct e _ _ => exact .base (.dK e)
  | tup e _ =>
    rcases e with (e | ⟨o, e⟩) | ⟨o, its, n, e, c, _⟩
    · exact .base (.tup e)
    · exact .fTuple e
    · exact .kTuple e c
theorem isi_str (K : PySem.W.Frag) (d : PyData) : PySem.W.kitOne K (.type (tyD d)) (.type "str") = some (match d with | .str _ => true | _ => false) := by cases d <;> rfl
theorem isi_int (K : PySem.W.Frag) (d : PyData) : PySem.W.kitOne K (.type (tyD d)) (.type "int") = some (match d with | .int _ | .bool _ => true | _ => false) := by cases d <;> rfl
theorem isi_bool (K : PySem.W.Frag) (d : PyData) : PySem.W.kitOne K (.type (tyD d)) (.type "bool") = some (match d with | .bool _ => true | _ => false) := by cases d <;> rfl
theorem isi_tup (K : PySem.W.Frag) (d : PyData) : PySem.W.kitOne K (.type (tyD d)) (.type "tuple") = some (match d with | .tuple _ => true | _ => false) := by cases d <;> rfl
end Ms
namespace Ms
open PySem PySem.Spec PyProof.Rows L2
/-! ### slices and joins of tuples, whole or not -/
theorem Same.seqT {K : PySem.W.Frag} {H H' : Hp} {a : Addr} {xs : List V} (e : Same H H') (h : SqT K H a xs) : SqT K H' a xs := by
  rcases h with (h | ⟨o, h⟩) | h
  · exact .inl (.inl (e _ _ h))
  · exact .inl (.inr ⟨o, e _ _ h⟩)
  · exact .inr h
theorem cutV_whole {xs : List V} {lo hi : Option Int} (h : HT.sIx xs.length 0 lo = 0 ∧ HT.sIx xs.length xs.length hi = xs.length) : cutV xs lo hi = xs := by
  unfold cutV
  rw [h.1, h.2, List.drop_zero, Nat.sub_zero, List.take_length]
theorem slA_any {K : PySem.W.Frag} {H : Hp} {a : Addr} {xs : List V} {lo hi : Option Int} {Q : VK} (h : SqT K H a xs) (q : ∀ (p : Addr) (H' : Hp), Same H H' → SqT K H' p (cutV xs lo hi) → Q (.ref p) H') : rSlA K (.ref a) lo hi H Q :=
  ⟨a, xs, rfl, h, fun w => q a H (fun _ _ e => e) (by rw [cutV_whole w]; exact h), fun _ p hp => q p _ (Same.upd hp) (.inl (.inl upd_same))⟩
theorem catA_any {K : PySem.W.Frag} {H : Hp} {a b : Addr} {xs ys : List V} {Q : VK} (h : SqT K H a xs) (h2 : SqT K H b ys) (hl : xs.length + ys.length ≤ sizeLine) (q : ∀ (p : Addr) (H' : Hp), Same H H' → SqT K H' p (xs ++ ys) → Q (.ref p) H') : rCatA K (.ref a) (.ref b) H Q :=
  ⟨a, b, xs, ys, rfl, rfl, h, h2, hl, fun e => q b H (fun _ _ e => e) (by rw [e]; exact h2), fun _ e => q a H (fun _ _ e => e) (by rw [e, List.append_nil]; exact h), fun _ _ p hp => q p _ (Same.upd hp) (.inl (.inl upd_same))⟩
theorem cut_to {xs : List V} {i : Nat} (h : i ≤ xs.length) : cutV xs none (some (i : Int)) = xs.take i := by
  unfold cutV
  rw [HT.sIx_nat, HT.sIx_none, List.drop_zero, Nat.sub_zero, Nat.min_eq_left h]
theorem cut_from {xs : List V} {i : Nat} (h : i ≤ xs.length) : cutV xs (some (i : Int)) none = xs.drop i := by
  unfold cutV
  rw [HT.sIx_nat, HT.sIx_none, Nat.min_eq_left h]
  exact List.take_of_length_le (by simp)
theorem cut_one {xs : List V} {i : Nat} (h : i < xs.length) : cutV xs (some (i : Int)) (some ((i : Int) + 1)) = (xs.drop i).take 1 := by
  have e : ((i : Int) + 1) = ((i + 1 : Nat) : Int) := by omega
  unfold cutV
  rw [e, HT.sIx_nat, HT.sIx_nat, Nat.min_eq_left (by omega), Nat.min_eq_left (by omega)]
  have : i + 1 - i = 1 := by omega
  rw [this]
theorem cut_from1 {xs : List V} {i : Nat} (h : i < xs.length) : cutV xs (some ((i : Int) + 1)) none = xs.drop (i + 1) := by
  have e : ((i : Int) + 1) = ((i + 1 : Nat) : Int) := by omega
  rw [e]; exact cut_from h
/-! ### lists of data -/
section
variable {K : PySem.W.Frag} {H : Hp} {m l : Addr}
theorem DqAll.app {vs ws : List V} : ∀ {ds es : List PyData}, DqAll K H m l vs ds → DqAll K H m l ws es → DqAll K H m l (vs ++ ws) (ds ++ es) := by
  intro ds
  induction ds generalizing vs with
  | nil => intro es h1 h2; cases h1; exact h2
  | cons d ds ih => intro es h1 h2; cases h1 with | cons a b => exact .cons a (ih b h2)
theorem DqAll.len {vs : List V} : ∀ {ds : List PyData}, DqAll K H m l vs ds → vs.length = ds.length := by
  intro ds
  induction ds generalizing vs with
  | nil => intro h; cases h; rfl
  | cons d ds ih => intro h; cases h with | cons a b => simp [ih b]
theorem DqAll.drop {vs : List V} : ∀ {ds : List PyData} (i : Nat), DqAll K H m l vs ds → DqAll K H m l (vs.drop i) (ds.drop i) := by
  intro ds
  induction ds generalizing vs with
  | nil => intro i h; cases h; simp; exact .nil
  | cons d ds ih =>
    intro i h
    cases h with
    | cons a b =>
      cases i with
      | zero => exact .cons a b
      | succ i => simpa using ih i b
theorem DqAll.take {vs : List V} : ∀ {ds : List PyData} (i : Nat), DqAll K H m l vs ds → DqAll K H m l (vs.take i) (ds.take i) := by
  intro ds
  induction ds generalizing vs with
  | nil => intro i h; cases h; simp; exact .nil
  | cons d ds ih =>
    intro i h
    cases h with
    | cons a b =>
      cases i with
      | zero => simp; exact .nil
      | succ i => simpa using DqAll.cons a (ih i b)
theorem DqAll.rev {vs : List V} : ∀ {ds : List PyData}, DqAll K H m l vs ds → DqAll K H m l vs.reverse ds.reverse := by
  intro ds
  induction ds generalizing vs with
  | nil => intro h; cases h; exact .nil
  | cons d ds ih => intro h; cases h with | cons a b => rw [List.reverse_cons, List.reverse_cons]; exact (ih b).app (.cons a .nil)
end
theorem wA_app : ∀ (xs ys : List PyData), PyData.weightAll (xs ++ ys) = PyData.weightAll xs + PyData.weightAll ys
  | [], ys => by simp [PyData.weightAll]
  | x :: xs, ys => by simp only [List.cons_append, PyData.weightAll, wA_app xs ys]; omega
theorem wA_rev : ∀ (xs : List PyData), PyData.weightAll xs.reverse = PyData.weightAll xs
  | [] => rfl
  | x :: xs => by rw [List.reverse_cons, wA_app, wA_rev xs]; simp only [PyData.weightAll]; omega
theorem wA_split (xs : List PyData) (i : Nat) : PyData.weightAll (xs.take i) + PyData.weightAll (xs.drop i) = PyData.weightAll xs := by
  rw [← wA_app, List.take_append_drop]
theorem wA_len : ∀ (xs : List PyData), xs.length ≤ PyData.weightAll xs
  | [] => Nat.le_refl _
  | x :: xs => by simp only [List.length_cons, PyData.weightAll]; have := wA_len xs; omega
theorem dA_iff {c : Nat} : ∀ {xs : List PyData}, PyData.depthAll xs ≤ c ↔ ∀ x ∈ xs, x.depth ≤ c
  | [] => by simp [PyData.depthAll]
  | x :: xs => by simp only [PyData.depthAll, List.mem_cons, forall_eq_or_imp]; rw [Nat.max_le, dA_iff (xs := xs)]
/-- a list of good data -/
structure Gl' (B w c : Nat) (ds : List PyData) : Prop where
  ok : ∀ d ∈ ds, okD B d = true
  wt : PyData.weightAll ds ≤ w
  dp : ∀ d ∈ ds, d.depth ≤ c
theorem Gd.tup {B a b : Nat} {ds : List PyData} (g : Gl' B a b ds) : Gd B a (b + 1) (.tuple ds) :=
  ⟨by simp only [okD]; exact okAll_iff.mpr g.ok, by simp only [PyData.weight]; exact g.wt, by simp only [PyData.depth]; exact Nat.succ_le_succ (dA_iff.mpr g.dp)⟩
theorem Gd.lst {B a b : Nat} {ds : List PyData} (g : Gl' B a b ds) : Gd B a (b + 1) (.list ds) :=
  ⟨by simp only [okD]; exact okAll_iff.mpr g.ok, by simp only [PyData.weight]; exact g.wt, by simp only [PyData.depth]; exact Nat.succ_le_succ (dA_iff.mpr g.dp)⟩
theorem Gd.untup {B a b : Nat} {ds : List PyData} (g : Gd B a b (.tuple ds)) : ∃ c, b = c + 1 ∧ Gl' B a c ds := by
  obtain ⟨h1, h2, h3⟩ := g
  simp only [okD] at h1
  simp only [PyData.weight] at h2
  simp only [PyData.depth] at h3
  obtain ⟨c, rfl⟩ : ∃ c, b = c + 1 := ⟨b - 1, by omega⟩
  exact ⟨c, rfl, okAll_iff.mp h1, h2, dA_iff.mp (by omega)⟩
section
variable {B a c : Nat} {ds es : List PyData}
theorem Gl'.mono {B' a' c' : Nat} (g : Gl' B a c ds) (h1 : B ≤ B') (h2 : a ≤ a') (h3 : c ≤ c') : Gl' B' a' c' ds :=
  ⟨fun d h => okD_mono h1 d (g.ok d h), Nat.le_trans g.wt h2, fun d h => Nat.le_trans (g.dp d h) h3⟩
theorem Gl'.app {a2 : Nat} (g : Gl' B a c ds) (h : Gl' B a2 c es) : Gl' B (a + a2) c (ds ++ es) :=
  ⟨fun d q => (List.mem_append.mp q).elim (g.ok d) (h.ok d), by rw [wA_app]; have := g.wt; have := h.wt; omega, fun d q => (List.mem_append.mp q).elim (g.dp d) (h.dp d)⟩
theorem Gl'.tk (g : Gl' B a c ds) (i : Nat) : Gl' B (PyData.weightAll (ds.take i)) c (ds.take i) := ⟨fun d q => g.ok d (List.mem_of_mem_take q), Nat.le_refl _, fun d q => g.dp d (List.mem_of_mem_take q)⟩
theorem Gl'.dr (g : Gl' B a c ds) (i : Nat) : Gl' B (PyData.weightAll (ds.drop i)) c (ds.drop i) := ⟨fun d q => g.ok d (List.mem_of_mem_drop q), Nat.le_refl _, fun d q => g.dp d (List.mem_of_mem_drop q)⟩
theorem Gl'.rv (g : Gl' B a c ds) : Gl' B a c ds.reverse := ⟨fun d q => g.ok d (List.mem_reverse.mp q), by rw [wA_rev]; exact g.wt, fun d q => g.dp d (List.mem_reverse.mp q)⟩
theorem Gl'.one {d : PyData} {w : Nat} (g : Gd B w c d) : Gl' B (w + 1) c [d] :=
  ⟨fun x h => by rw [List.mem_singleton.mp h]; exact g.ok, by simp only [PyData.weightAll]; have := g.wt; omega, fun x h => by rw [List.mem_singleton.mp h]; exact g.dp⟩
theorem Gl'.at (g : Gl' B a c ds) {i : Nat} {d : PyData} (h : ds[i]? = some d) : Gd B d.weight c d := ⟨g.ok d (List.mem_of_getElem? h), Nat.le_refl _, g.dp d (List.mem_of_getElem? h)⟩
theorem wA_at {i : Nat} {d : PyData} (h : ds[i]? = some d) : PyData.weightAll (ds.take i) + (d.weight + 1) + PyData.weightAll (ds.drop (i + 1)) = PyData.weightAll ds := by
  have hi : i < ds.length := (List.getElem?_eq_some_iff.mp h).1
  have e : ds[i] = d := (List.getElem?_eq_some_iff.mp h).2
  rw [← wA_split ds i, List.drop_eq_getElem_cons hi, e]
  simp only [PyData.weightAll]
  omega
end
/-! ### texts and numbers -/
theorem Gd.str {B a : Nat} {z : Str} (h : sOk a z) : Gd B a 0 (.str z) := ⟨h.okd, by simp only [PyData.weight]; exact h.1, Nat.le_refl _⟩
theorem Gd.unstr {B a b : Nat} {z : Str} (g : Gd B a b (.str z)) : sOk a z := by
  obtain ⟨h1, h2, _⟩ := g
  simp only [okD, List.all_eq_true, decide_eq_true_eq] at h1
  simp only [PyData.weight] at h2
  exact ⟨h2, h1⟩
theorem mul2 (z : Str) : sOk (2 * z.length) (Txt.mul z 2) ∨ ¬ sOk z.length z := by
  by_cases h : sOk z.length z
  · refine .inl ?_
    unfold Txt.mul
    rw [if_neg (by decide)]
    by_cases e : ((2 : Int) == 1 || z.length == 0) = true
    · rw [if_pos e]; exact h.mono (by omega)
    · rw [if_neg e]
      have q : ((List.replicate (2 : Int).toNat z.cps).foldl (· ++ ·) #[] : Array Nat) = z.cps ++ z.cps := by
        show (#[] ++ z.cps) ++ z.cps = _
        rw [Array.empty_append]
      rw [q]
      have := h.app h
      refine this.mono (by omega)
  · exact .inr h
theorem mul2_ok {a : Nat} {z : Str} (h : sOk a z) : sOk (2 * a) (Txt.mul z 2) := by
  rcases mul2 z with q | q
  · exact q.mono (by have := h.1; omega)
  · exact absurd ⟨Nat.le_refl _, h.2⟩ q
theorem wt_int {i : Int} (h : i.natAbs ≤ 10 ^ 31) : PyData.weight (.int i) ≤ 104 := by
  simp only [PyData.weight]
  split
  · decide
  · rename_i z
    have h1 : i.natAbs < 2 ^ 103 := by
      have e : (10 : Nat) ^ 31 < 2 ^ 103 := by decide
      omega
    have nz : i.natAbs ≠ 0 := by
      intro e
      exact z (by simp; omega)
    have := (Nat.log2_lt nz).mpr h1
    omega
theorem Gd.int {B : Nat} {i : Int} (h : i.natAbs ≤ B) (hB : B ≤ 10 ^ 31) : Gd B 104 0 (.int i) :=
  ⟨by simp only [okD, decide_eq_true_eq]; exact h, wt_int (by omega), Nat.le_refl _⟩
theorem Gd.unint {B a b : Nat} {i : Int} (g : Gd B a b (.int i)) : i.natAbs ≤ B := by
  have := g.ok
  simpa only [okD, decide_eq_true_eq] using this
theorem ite_b {c : Bool} {A B : Prop} (h1 : c = true → A) (h2 : c = false → B) : if c = true then A else B := by
  cases c
  · rw [if_neg Bool.false_ne_true]; exact h2 rfl
  · rw [if_pos rfl]; exact h1 rfl
theorem noPart {σ : L2.St} {H : Hp} {Q : Option Int → Hp → Prop} (h : Q none H) : tNoPart σ H Q := h
end Ms
namespace Ms
open PySem PySem.Spec PyProof.Rows L2
def isWhole (d : PyData) (lo hi : Int) : Bool := match d with | .int i => decide (lo ≤ i) && decide (i ≤ hi) | _ => false
def isName (d : PyData) : Bool := match d with | .str z => (decide (1 ≤ z.length) && decide (z.length ≤ 8)) && z.cps.toList.all fun c => decide (c ∈ alpha.cps.toList) | _ => false
theorem lay_strs : ∀ ys : List Str, (∀ y ∈ ys, PyData.canLay0 (.str y) = true) → PyData.canLayAll0 (ys.map PyData.str) = true
  | [], _ => rfl
  | y :: ys, h => by
    show (PyData.canLay0 (.str y) && PyData.canLayAll0 (ys.map PyData.str)) = true
    rw [lay_strs ys (fun x hx => h x (List.mem_cons_of_mem _ hx)), h y (List.mem_cons_self ..)]; rfl
theorem depth_strs : ∀ ys : List Str, PyData.depthAll (ys.map PyData.str) = 0
  | [] => rfl
  | y :: ys => by
    show max (PyData.depth (.str y)) (PyData.depthAll (ys.map PyData.str)) = 0
    rw [depth_strs ys]; rfl
theorem shaped_strs (ys : List Str) (h : ∀ y ∈ ys, PyData.canLay0 (.str y) = true) : SeqAt.shaped (.list (ys.map PyData.str)) = true := by
  show (PyData.canLayAll0 (ys.map PyData.str) && decide (PyData.depthAll (ys.map PyData.str) + 1 ≤ 64)) = true
  rw [lay_strs ys h, depth_strs]; rfl
theorem dpAll_strs {K : PySem.W.Frag} {H : Hp} : ∀ ys : List Str, DpAll K H (ys.map V.str) (ys.map PyData.str)
  | [] => .nil
  | y :: ys => .cons (.str y) (dpAll_strs ys)
structure TxtQ (mg : Str → Option Value) : Prop where
  isi : mg "isinstance" = none
  int : mg "int" = none
  bool : mg "bool" = none
  str : mg "str" = none
  len : mg "len" = none
def spWhole (K : PySem.W.Frag) : Sp := fun vs H Q _ => ∃ (m l : Addr) (v : V) (d : PyData) (lo hi : Int), vs = [v, .int lo, .int hi] ∧ Dq K H m l v d ∧ Q (.bl (isWhole d lo hi)) H
def spName (K : PySem.W.Frag) : Sp := fun vs H Q _ => ∃ (m l : Addr) (v : V) (d : PyData), vs = [v] ∧ Dq K H m l v d ∧ (∀ z, d = .str z → sOk 100000 z) ∧ ∀ H', Same H H' → Q (.bl (isName d)) H'
end Ms
namespace Ms
open PySem PySem.Spec PyProof.Rows L2
/-! ### enumerate(tuple) over KE's draws -/
def ItET (K : PySem.W.Frag) (a : Addr) : It :=
  ⟨fun i H => ∃ xs : List V, SqT K H a xs ∧ i < xs.length,
    fun i H v H' => ∃ T x, v = .ref T ∧ H T = none ∧ H' = upd H T (.tup [.int (i : Nat), x]) ∧ ∀ xs, SqT K H a xs → xs[i]? = some x,
    fun i H => ∃ xs : List V, SqT K H a xs ∧ i = xs.length⟩
theorem walk_et {K : PySem.W.Frag} {a : Addr} {xs : List V} : Walk (ItET K a) xs.length (fun H => SqT K H a xs) (YPair (fun i => some (.int (i : Nat))) (fun i => xs[i]?)) := by
  refine ⟨fun i _ hi q => ⟨xs, q, hi⟩, fun _ q => ⟨xs, q, rfl⟩, fun i H v H' _ q y => ?_⟩
  obtain ⟨T, x, h1, h2, h3, h4⟩ := y
  exact ⟨T, .int (i : Nat), x, h1, h2, h3, rfl, h4 xs q⟩
abbrev EtSt (a e it : Addr) : Nat → Heap → Prop := fun i h => (∃ old, IsEnum h e it ((0 : Int) + (i : Int)) old) ∧ h.IsTupleIter it a i
theorem turn_et {P : Program} {w : World} {K : PySem.W.Frag} {elts : List Expr} {kk : Nat} {tpos : Pos} {a e it : Addr} (na : a ≠ it) (ne : e ≠ it) (nea : e ≠ a) :
    Turn P w K (.Tuple elts kk tpos) (ItET K a) [e, it] e (EtSt a e it) where
  mem := by simp
  obj := fun i h st b hb => by
    obtain ⟨⟨old, he⟩, ⟨o, ho, hc, hd⟩⟩ := st
    have e' : b = e ∨ b = it := by simpa using hb
    rcases e' with rfl | rfl
    · exact ⟨_, he, fun v q => nomatch q⟩
    · exact ⟨o, ho, fun v q => by rw [hd] at q; cases q⟩
  keep := fun i h h' st k => by
    obtain ⟨⟨old, he⟩, hi⟩ := st
    exact ⟨⟨old, k e (by simp) _ he⟩, hi.at fun o q => k it (by simp) o q⟩
  item := by
    intro X hP hw hK hc i pins s σ H E I hf st hg
    subst hP hw hK
    obtain ⟨xs, hq, hi⟩ := hg
    obtain ⟨its, rv, p, _⟩ := I.tuple hq
    have l1 := rv.length
    have hh : X.A.in1.handled = none := I.ok.hd hc
    have W := GoesN.enumFrom (elts := elts) (x1 := kk) (pos := tpos) 0 (Draws.tuple (prog := X.prog) (w := X.w) hh it a na its.toArray) e ne (by simp [ne, nea]) (by simp)
    have lv : ∀ c ∈ [e, it], c < s.heap.objs.size := fun c hc => by
      obtain ⟨⟨old, he⟩, ⟨o, ho, _⟩⟩ := st
      have e' : c = e ∨ c = it := by simpa using hc
      rcases e' with rfl | rfl
      · exact Heap.lt_size he
      · exact Heap.lt_size ho
    refine W.goes i s (fun u s2 => ∃ x H', L2.Inv X pins σ H' s2 ∧ RelV x u ∧ (ItET X.K a).yld i H x H' ∧ EtSt a e it (i + 1) s2.heap ∧ ∀ b ∈ [e, it], H' b = none) E (by simp; omega) ⟨st.1, st.2, p⟩ fun v h' tk Y st' hk htk => ?_
    obtain ⟨T, t, x, rfl, hT, hx, hI⟩ := Y
    have hxx : xs[i]? = some xs[i] := List.getElem?_eq_getElem hi
    obtain ⟨u, hu, ru⟩ := rv.get hxx
    have ex : x = u := by simp [hu] at hx; exact hx.symm
    subst ex
    have new : ObjOk X.prog X.w (upd H T (.tup [.int (i : Nat), xs[i]])) h' T (.tup [.int (i : Nat), xs[i]]) :=
      ⟨(by show 2 ≤ sizeLine; decide), [.int (0 + (i : Int)) t, x], .cons ⟨t, by rw [Int.zero_add]⟩ (.cons ru .nil), hI⟩
    have I1 : L2.Inv X pins σ (upd H T (.tup [.int (i : Nat), xs[i]])) { s with heap := h', toks := tk } := I.turnedNew (t' := tk) (ch := [e, it]) hk hf hT new
    refine ⟨.ref T, _, I1, rfl, ⟨T, xs[i], rfl, I.hok.fresh hT, rfl, fun ys hy => by rw [I.tuple_inj hy hq]; exact hxx⟩, ⟨st'.1, st'.2.1⟩, fun b hb => ?_⟩
    rw [upd_ne (Nat.ne_of_lt (Nat.lt_of_lt_of_le (lv b hb) hT))]
    exact (hf b hb).1
  done := by
    intro X hP hw hK hc i pins s σ H E I hf st hg
    subst hP hw hK
    obtain ⟨xs, hq, hi⟩ := hg
    obtain ⟨its, rv, p, _⟩ := I.tuple hq
    have l1 := rv.length
    have hh : X.A.in1.handled = none := I.ok.hd hc
    have W := GoesN.enumFrom (elts := elts) (x1 := kk) (pos := tpos) 0 (Draws.tuple (prog := X.prog) (w := X.w) hh it a na its.toArray) e ne (by simp [ne, nea]) (by simp)
    have ei : i = its.toArray.size := by simp; omega
    rw [ei] at st
    exact W.stops s (fun s1 => L2.Inv X pins σ H s1) E ⟨st.1, st.2, p⟩ fun h' tk hk htk => I.turnedL (t' := tk) (ch := [e, it]) hk hf
  self := fun A i s Q E st h => let ⟨⟨_, he⟩, _⟩ := st; wpAny_pyIter_enum he h
def iET (K : PySem.W.Frag) (ta : TA) : TI := fun σ H R => ta σ H fun vs H1 => ∃ a xs, vs = [.ref a] ∧ SqT K H1 a xs ∧ R (ItET K a) H1
set_option maxHeartbeats 1000000 in
/-- enumerate(v), v told by how its iterator begins -/
theorem meets_en1 {v : Value} {o : Obj} {HP : Heap → Prop} (B : Begins v o HP) :
    Meets (Builtin.«enumerate.__new__» ⟨[.type "enumerate", v], []⟩) (fun _ R s => HP s.heap ∧
      R (.ok (.ret (.ref (s.heap.push o).objs.size))) { s with heap := (s.heap.push o).push { cls := .type "enumerate", data := .fields #[.none, .bool false, .ref s.heap.objs.size, rawInt 0, .none, .none] } }) :=
  .of_wp fun prog w A R s h => by
    obtain ⟨hp, g, d, tk, os⟩ := s
    obtain ⟨h1, h⟩ := h
    have hsub := sub_enumerate
    have begins : ∀ {A' : Around} {E : Value → Shared → Prop} {Q : Value → Shared → Prop}, Q (.ref hp.objs.size) ⟨hp.push o, g, d, tk, os⟩ → wpAny (model prog w) A' (pyIter v) Q E ⟨hp, g, d, tk, os⟩ :=
      fun q => B.iter prog w _ _ ⟨hp, g, d, tk, os⟩ _ h1 q
    wp_walk using begins
    refine wpAny_stack_any fun st => wpAny_pure ?_
    split
    · rename_i c _ _ _ _ _
      cases (c == Value.type "enumerate") <;> (wp_walk using begins; exact ⟨_, rfl, h⟩)
    · wp_walk using begins
      exact ⟨_, rfl, h⟩
theorem pi_et {X : Cx} {e : Expr} {ta : TA} {p pos tpos : Pos} {elts : List Expr} {kk : Nat} (hg : Gl X "enumerate") (hm : X.mg "enumerate" = none) (ha : PA X [e] ta) (hs : starEach [e] X.env = [(false, eval e X.env)] := by rfl) :
    PI X (.Tuple elts kk tpos) (.Call (.Name "enumerate" p) [e] [] pos) (iET X.K ta) := by
  refine ⟨fun pins s σ H R I h => Call_ (ld_blt I hg hm boot_enumerate (PyProof.Rows.callWith_type1 (thn (ha.run pos pins s σ H _ I h) fun us s1 ⟨vs, H1, I1, r1, q1⟩ => ?_) hs rfl))⟩
  obtain ⟨a, xs, ex, hq, q⟩ := q1
  subst ex
  obtain ⟨u, rfl, ru⟩ := vals1 r1
  cases ru
  obtain ⟨its, rv, p1, _⟩ := I1.tuple hq
  obtain ⟨oa, hoa, _⟩ := id p1
  have la : a < s1.heap.objs.size := Heap.lt_size hoa
  refine callType_new F.called_enumerate (by decide) (F.typeCall_enumerate_1 _) (F.newCall_enumerate_1 _) (fun obj => F.args_object_init_2 obj _) F.entry_enumerate_new (meets_en1 (begins_tuple a its.toArray)) ⟨p1, ?_⟩
  obtain ⟨oi, hoi⟩ : ∃ oi : Obj, oi = { cls := .type "tuple_iterator", data := .fields #[.ref a, .int 0 0] } := ⟨_, rfl⟩
  obtain ⟨oe, hoe⟩ : ∃ oe : Obj, oe = { cls := .type "enumerate", data := .fields #[.none, .bool false, .ref s1.heap.objs.size, rawInt 0, .none, .none] } := ⟨_, rfl⟩
  rw [← hoi, ← hoe]
  have hz : (s1.heap.push oi).objs.size = s1.heap.objs.size + 1 := Heap.size_push ..
  have ge : ((s1.heap.push oi).push oe).get? (s1.heap.objs.size + 1) = some oe := by
    have := Heap.get?_push_size (s1.heap.push oi) (o := oe) (by rw [hoe]; rfl)
    rw [hz] at this; exact this
  have gi : ((s1.heap.push oi).push oe).get? s1.heap.objs.size = some oi := Heap.get?_push_of_some _ (Heap.get?_push_size _ (by rw [hoi]; rfl))
  have hk : ∀ b o, s1.heap.get? b = some o → ((s1.heap.push oi).push oe).get? b = some o := fun b o x => Heap.get?_push_of_some _ (Heap.get?_push_of_some _ x)
  show _ ∧ _
  rw [hz]
  have he : IsEnum ((s1.heap.push oi).push oe) (s1.heap.objs.size + 1) s1.heap.objs.size 0 .none := ge.trans (by rw [hoe])
  refine ⟨⟨_, ge, by rw [hoe]⟩, wpAny_pyIter_enum he ?_⟩
  have I2 : L2.Inv X pins σ H1 { s1 with heap := (s1.heap.push oi).push oe } := I1.kept (t' := s1.toks) hk
  have n1 : s1.heap.objs.size + 1 ≠ s1.heap.objs.size := Nat.succ_ne_self _
  have n2 : s1.heap.objs.size + 1 ≠ a := Nat.ne_of_gt (Nat.lt_succ_of_lt la)
  refine ⟨s1.heap.objs.size + 1, [s1.heap.objs.size + 1, s1.heap.objs.size], EtSt a (s1.heap.objs.size + 1) s1.heap.objs.size, ItET X.K a, H1, rfl, I2, turn_et (Nat.ne_of_lt la) n1 n2, ⟨⟨.none, he⟩, ⟨oi, gi, by rw [hoi], by rw [hoi]; rfl⟩⟩, fun c hc => ?_, q⟩
  have e' : c = s1.heap.objs.size + 1 ∨ c = s1.heap.objs.size := by simpa using hc
  have hle : s1.heap.objs.size ≤ c := by
    rcases e' with e | e
    · rw [e]; exact Nat.le_succ _
    · rw [e]; exact Nat.le_refl _
  exact I1.fpOk hle (I1.hok.fresh hle)
end Ms
namespace Ms
open PySem PySem.Spec PyProof.Rows L2
/-! ### _law_due -/
/-- a good pair -/
def oneD : PyData → Option (Str × Int)
  | .tuple [.str z, .int c] => if (isName (.str z) && isWhole (.int c) 1 3) = true then some (z, c) else none
  | _ => none
def dueGo : Nat → List Str → Int → List PyData → Sum Nat Int
  | _, _, many, [] => .inr many
  | p, seen, many, d :: ds => match oneD d with
    | none => .inl p
    | some (z, c) => if z ∈ seen then .inl p else dueGo (p + 1) (seen ++ [z]) (many * (c + 1)) ds
def bad (d : PyData) : PyData := .tuple [.str "settings", d]
def dueD (d : PyData) : PyData := match d with
  | .tuple ds => if 1 ≤ ds.length ∧ ds.length ≤ 3 then (match dueGo 0 [] 1 ds with | .inl p => bad (.int p) | .inr many => if many ≤ 12 then .list [d] else bad (.str "many")) else bad .none
  | _ => bad .none
theorem oneD_name {d0 d1 : PyData} (h : isName d0 = false) : oneD (.tuple [d0, d1]) = none := by
  cases d0 <;> cases d1 <;> first | rfl | (simp only [oneD]; rw [h]; rfl)
theorem oneD_whole {d0 d1 : PyData} (h : isWhole d1 1 3 = false) : oneD (.tuple [d0, d1]) = none := by
  cases d0 <;> cases d1 <;> first | rfl | (simp only [oneD]; rw [h, Bool.and_false]; rfl)
theorem oneD_len {es : List PyData} (h : es.length ≠ 2) : oneD (.tuple es) = none := by
  match es, h with
  | [], _ => rfl
  | [x], _ => cases x <;> rfl
  | [_, _], h => exact absurd rfl h
  | x :: y :: z :: r, _ => cases x <;> cases y <;> rfl
theorem oneD_ok {d0 d1 : PyData} (h : isName d0 = true) (h1 : isWhole d1 1 3 = true) : ∃ z c, d0 = .str z ∧ d1 = .int c ∧ 1 ≤ c ∧ c ≤ 3 ∧ oneD (.tuple [d0, d1]) = some (z, c) := by
  cases d0 with
  | str z =>
    cases d1 with
    | int c =>
      refine ⟨z, c, rfl, rfl, ?_, ?_, by simp only [oneD]; rw [h, h1]; rfl⟩
      · have := (Bool.and_eq_true _ _ ▸ h1 : _ ∧ _).1
        exact of_decide_eq_true this
      · have := (Bool.and_eq_true _ _ ▸ h1 : _ ∧ _).2
        exact of_decide_eq_true this
    | _ => exact absurd h1 (by simp [isWhole])
  | _ => exact absurd h (by simp [isName])
theorem inV_str (z : Str) (ys : List Str) : inV (.str z) (ys.map V.str) = decide (z ∈ ys) := by
  unfold inV
  rw [List.any_map]
  rw [Bool.eq_iff_iff]
  simp only [List.any_eq_true, Function.comp, eqV, beq_iff_eq, decide_eq_true_eq]
  constructor
  · rintro ⟨y, hy, rfl⟩; exact hy
  · intro h; exact ⟨z, h, rfl⟩
end Ms
namespace Ms
open PySem PySem.Spec PyProof.Rows L2
/-! ### data keeps while the heap grows -/
mutual
theorem Dq.same {K : PySem.W.Frag} {m l : Addr} {H H' : Hp} (k : Same H H') : ∀ (d : PyData) (v : V), Dq K H m l v d → Dq K H' m l v d
  | .none, _, h => by cases h; exact .non
  | .bool b, _, h => by cases h; exact .bl b
  | .int i, _, h => by cases h; exact .int i
  | .str x, _, h => by cases h; exact .str x
  | .list ds, _, h => by
    cases h with
    | lst e n1 n2 t => exact .lst (k _ _ e) n1 n2 (DqAll.same k ds _ t)
  | .tuple ds, _, h => by
    cases h with
    | tup e t => exact .tup (Same.seqT k e) (DqAll.same k ds _ t)
  | .dict _, _, h => by
    cases h with
    | dct e n1 n2 => exact .dct (k _ _ e) n1 n2
theorem DqAll.same {K : PySem.W.Frag} {m l : Addr} {H H' : Hp} (k : Same H H') : ∀ (ds : List PyData) (vs : List V), DqAll K H m l vs ds → DqAll K H' m l vs ds
  | [], _, h => by cases h; exact .nil
  | d :: ds, _, h => by
    cases h with
    | cons h1 h2 => exact .cons (Dq.same k d _ h1) (DqAll.same k ds _ h2)
end
/-! ### comprehensions of two clauses -/
theorem lc2_it {J : It} {n : Nat} {G : Hp → Prop} {Y : Nat → Hp → V → Hp → Prop} (w : Walk J n G Y) {g : TG} {tt : TT} {wi1 : TI} {g1 : TG} {tt1 : TT} {te : TE} {vs vs1 : List Nat} {σ : L2.St} {H1 : Hp} {D : Addr} {Qd : Hp → Prop} (Pv : Nat → Hp → Prop)
    (h0 : Pv 0 (upd H1 D (.lst []))) (hG : ∀ i H, i ≤ n → Pv i H → G H)
    (hs : ∀ i x H H', i < n → Pv i H → Y i H x H' → g x (wipe σ vs) H' fun σ2 H2 => wipe σ2 vs = wipe σ vs ∧ tt σ2 H2 fun b H3 =>
      if b = true then wi1 σ2 H3 fun J1 H4 => ∃ W1 : Nat → Nat → Hp → Prop, (∃ m, W1 0 m H4) ∧ ∀ j k H, W1 j k H →
        (J1.stop j H ∧ Pv (i + 1) H) ∨ (J1.go j H ∧ ∃ Nx1 : Hp → Prop, (∀ H', Nx1 H' → ∃ k', k' < k ∧ W1 (j + 1) k' H') ∧ ∀ x H', J1.yld j H x H' → g1 x (wipe σ2 vs1) H' fun σ3 H5 => wipe σ3 vs1 = wipe σ2 vs1 ∧ tt1 σ3 H5 fun b H6 =>
          if b = true then te σ3 H6 fun y H7 => ∃ acc, H7 D = some (.lst acc) ∧ acc.length < sizeLine ∧ Nx1 (upd H7 D (.lst (acc ++ [y]))) else Nx1 H6)
      else Pv (i + 1) H3) (hd : ∀ H, Pv n H → Qd H) :
    ∃ W : Nat → Nat → Hp → Prop, (∃ m, W 0 m (upd H1 D (.lst []))) ∧ ∀ i m H, W i m H →
      (J.stop i H ∧ Qd H) ∨ (J.go i H ∧ ∃ Nx : Hp → Prop, (∀ H', Nx H' → ∃ m', m' < m ∧ W (i + 1) m' H') ∧ ∀ x H', J.yld i H x H' → g x (wipe σ vs) H' fun σ2 H2 => wipe σ2 vs = wipe σ vs ∧ tt σ2 H2 fun b H3 =>
        if b = true then wi1 σ2 H3 fun J1 H4 => ∃ W1 : Nat → Nat → Hp → Prop, (∃ m, W1 0 m H4) ∧ ∀ j k H, W1 j k H →
          (J1.stop j H ∧ Nx H) ∨ (J1.go j H ∧ ∃ Nx1 : Hp → Prop, (∀ H', Nx1 H' → ∃ k', k' < k ∧ W1 (j + 1) k' H') ∧ ∀ x H', J1.yld j H x H' → g1 x (wipe σ2 vs1) H' fun σ3 H5 => wipe σ3 vs1 = wipe σ2 vs1 ∧ tt1 σ3 H5 fun b H6 =>
            if b = true then te σ3 H6 fun y H7 => ∃ acc, H7 D = some (.lst acc) ∧ acc.length < sizeLine ∧ Nx1 (upd H7 D (.lst (acc ++ [y]))) else Nx1 H6)
        else Nx H3) := by
  refine ⟨fun i m H => i + m = n ∧ Pv i H, ⟨n, by omega, h0⟩, ?_⟩
  rintro i m H ⟨e, p⟩
  have q := hG i H (by omega) p
  by_cases hi : i < n
  · exact .inr ⟨w.goes i H hi q, Pv (i + 1), fun H' p' => ⟨n - (i + 1), by omega, by omega, p'⟩, fun x H' y => hs i x H H' hi p (w.yields i H x H' hi q y)⟩
  · have z : i = n := by omega
    subst z
    exact .inl ⟨w.stops H q, hd H p⟩
/-- the inner clause's walk -/
theorem lc_in {J : It} {n : Nat} {G : Hp → Prop} {Y : Nat → Hp → V → Hp → Prop} (w : Walk J n G Y) {g : TG} {tt : TT} {te : TE} {vs : List Nat} {σ : L2.St} {H4 : Hp} {D : Addr} {Qd : Hp → Prop} (Pv : Nat → Hp → Prop)
    (h0 : Pv 0 H4) (hG : ∀ i H, i ≤ n → Pv i H → G H)
    (hs : ∀ i x H H', i < n → Pv i H → Y i H x H' → g x (wipe σ vs) H' fun σ2 H2 => wipe σ2 vs = wipe σ vs ∧ tt σ2 H2 fun b H3 =>
      if b = true then te σ2 H3 fun y H4 => ∃ acc, H4 D = some (.lst acc) ∧ acc.length < sizeLine ∧ Pv (i + 1) (upd H4 D (.lst (acc ++ [y]))) else Pv (i + 1) H3) (hd : ∀ H, Pv n H → Qd H) :
    ∃ W : Nat → Nat → Hp → Prop, (∃ m, W 0 m H4) ∧ ∀ i m H, W i m H →
      (J.stop i H ∧ Qd H) ∨ (J.go i H ∧ ∃ Nx : Hp → Prop, (∀ H', Nx H' → ∃ m', m' < m ∧ W (i + 1) m' H') ∧ ∀ x H', J.yld i H x H' → g x (wipe σ vs) H' fun σ2 H2 => wipe σ2 vs = wipe σ vs ∧ tt σ2 H2 fun b H3 =>
        if b = true then te σ2 H3 fun y H4 => ∃ acc, H4 D = some (.lst acc) ∧ acc.length < sizeLine ∧ Nx (upd H4 D (.lst (acc ++ [y]))) else Nx H3) := by
  refine ⟨fun i m H => i + m = n ∧ Pv i H, ⟨n, by omega, h0⟩, ?_⟩
  rintro i m H ⟨e, p⟩
  have q := hG i H (by omega) p
  by_cases hi : i < n
  · exact .inr ⟨w.goes i H hi q, Pv (i + 1), fun H' p' => ⟨n - (i + 1), by omega, by omega, p'⟩, fun x H' y => hs i x H H' hi p (w.yields i H x H' hi q y)⟩
  · have z : i = n := by omega
    subst z
    exact .inl ⟨w.stops H q, hd H p⟩
/-! ### pairs of a text and an int, wherever they stand -/
def PrT (K : PySem.W.Frag) (H : Hp) (v : V) (q : Str × Int) : Prop := ∃ a, v = .ref a ∧ SqT K H a [.str q.1, .int q.2]
inductive PrTs (K : PySem.W.Frag) (H : Hp) : List V → List (Str × Int) → Prop
  | nil : PrTs K H [] []
  | cons {v : V} {vs : List V} {q : Str × Int} {qs : List (Str × Int)} : PrT K H v q → PrTs K H vs qs → PrTs K H (v :: vs) (q :: qs)
section
variable {K : PySem.W.Frag} {H H' : Hp}
theorem PrTs.same (s : Same H H') {vs : List V} {qs : List (Str × Int)} (p : PrTs K H vs qs) : PrTs K H' vs qs := by
  induction p with
  | nil => exact .nil
  | cons h _ ih =>
    obtain ⟨a, e, h⟩ := h
    exact .cons ⟨a, e, Same.seqT s h⟩ ih
theorem PrTs.len {vs : List V} {qs : List (Str × Int)} (p : PrTs K H vs qs) : vs.length = qs.length := by
  induction p with
  | nil => rfl
  | cons _ _ ih => simp [ih]
theorem PrTs.get {vs : List V} {qs : List (Str × Int)} (p : PrTs K H vs qs) : ∀ {i : Nat} {v : V}, vs[i]? = some v → ∃ q, qs[i]? = some q ∧ PrT K H v q := by
  induction p with
  | nil => intro i v h; simp at h
  | cons h' _ ih =>
    intro i b hb
    cases i with
    | zero => simp at hb; subst hb; exact ⟨_, rfl, h'⟩
    | succ i => exact ih (by simpa using hb)
theorem PrTs.snoc {vs : List V} {qs : List (Str × Int)} {v : V} {q : Str × Int} (p : PrTs K H vs qs) (h : PrT K H v q) : PrTs K H (vs ++ [v]) (qs ++ [q]) := by
  induction p with
  | nil => exact .cons h .nil
  | cons h' _ ih => exact .cons h' ih
end
/-! ### rows: tuples of ints, each with its own address -/
inductive Rws (H : Hp) : List Addr → List (List Int) → Prop
  | nil : Rws H [] []
  | cons {a : Addr} {as : List Addr} {r : List Int} {rs : List (List Int)} : H a = some (.tup (r.map V.int)) → Rws H as rs → Rws H (a :: as) (r :: rs)
section
variable {H H' : Hp}
theorem Rws.same {as : List Addr} {rs : List (List Int)} (s : ∀ b o, b ∈ as → H b = some o → H' b = some o) (p : Rws H as rs) : Rws H' as rs := by
  induction p with
  | nil => exact .nil
  | cons h _ ih => exact .cons (s _ _ (List.mem_cons_self ..) h) (ih fun b o hb => s b o (List.mem_cons_of_mem _ hb))
theorem Rws.snoc {as : List Addr} {rs : List (List Int)} {a : Addr} {r : List Int} (p : Rws H as rs) (h : H a = some (.tup (r.map V.int))) : Rws H (as ++ [a]) (rs ++ [r]) := by
  induction p with
  | nil => exact .cons h .nil
  | cons h' _ ih => exact .cons h' ih
theorem Rws.length {as : List Addr} {rs : List (List Int)} (p : Rws H as rs) : as.length = rs.length := by
  induction p with
  | nil => rfl
  | cons _ _ ih => simp [ih]
theorem Rws.get {as : List Addr} {rs : List (List Int)} (p : Rws H as rs) : ∀ {i : Nat} {a : Addr}, as[i]? = some a → ∃ r, rs[i]? = some r ∧ H a = some (.tup (r.map V.int)) := by
  induction p with
  | nil => intro i a h; simp at h
  | cons h' _ ih =>
    intro i b hb
    cases i with
    | zero => simp at hb; subst hb; exact ⟨_, rfl, h'⟩
    | succ i => exact ih (by simpa using hb)
end
/-! ### all standings, by the settings -/
/-- each row with each value behind it -/
def widen (rs : List (List Int)) (n : Nat) : List (List Int) := rs.flatMap fun r => (List.range n).map fun (v : Nat) => r ++ [(v : Int)]
def grid (qs : List (Str × Int)) : List (List Int) := qs.foldl (fun rs q => widen rs (q.2 + 1).toNat) [[]]
theorem widen_len (rs : List (List Int)) (n : Nat) : (widen rs n).length = rs.length * n := by
  unfold widen
  induction rs with
  | nil => simp
  | cons r rs ih => rw [List.flatMap_cons, List.length_append, ih, List.length_map, List.length_range, List.length_cons, Nat.succ_mul, Nat.add_comm]
end Ms
namespace Ms
open PySem PySem.Spec PyProof.Rows L2
/-! ### the package's settings: is_int, is_name, is_setting, names_of, grid_of -/
structure TxtP (mg : Str → Option Value) (fI fN fS fA fG : Addr) : Prop where
  isi : mg "isinstance" = none
  int : mg "int" = none
  bool : mg "bool" = none
  str : mg "str" = none
  tuple : mg "tuple" = none
  len : mg "len" = none
  all : mg "all" = none
  range : mg "range" = none
  enumerate : mg "enumerate" = none
  mS : ∃ t, mg "MOST_SETTINGS" = some (.int 3 t)
  mV : ∃ t, mg "MOST_VALUE" = some (.int 3 t)
  mT : ∃ t, mg "MOST_STANDINGS" = some (.int 12 t)
  lN : ∃ t, mg "LONGEST_NAME" = some (.int 8 t)
  gI : mg "is_int" = some (.ref fI)
  gN : mg "is_name" = some (.ref fN)
  gS : mg "is_setting" = some (.ref fS)
  gA : mg "names_of" = some (.ref fA)
  gG : mg "grid_of" = some (.ref fG)
def isInt (d : PyData) : Bool := match d with | .int _ => true | _ => false
section
variable {P : Program} {w : World} {K : PySem.W.Frag} {mg : Str → Option Value} {base : Heap} {fI fN fS fA fG : Addr}
theorem scPi : FnScope ["thing"] ["thing"] (defScope sPInt) := ⟨rfl, rfl, rfl, by decide +kernel, rfl, by decide +kernel, by decide +kernel⟩
def spPInt (K : PySem.W.Frag) : Sp := fun vs H Q _ => ∃ (m l : Addr) (v : V) (d : PyData), vs = [v] ∧ Dq K H m l v d ∧ Q (.bl (isInt d)) H
theorem ok_pint {f : Addr} {fd : FuncData} (F : Fun K "is_int" "is_int" sPInt f fd) (T : TxtP mg fI fN fS fA fG) : FnOk P w K mg base CX0 1 f fd ["thing"] (spPInt K) := by
  refine F.ok scPi (fun vs H Q E h => ?_) (fun cdv A outer s H vs Q E hr h => ?_)
  · obtain ⟨m, l, v, d, rfl, _⟩ := h
    rfl
  · obtain ⟨m, l, v, d, rfl, hd, q⟩ := h
    refine ⟨_, pss_one (ps_ret (pe_and (pe_callB call_isi (by rfl) T.isi PyProof.Rows.boot_isinstance (pa_cons (pv 0) (pa_cons (pe_bltn (v := .ty "int") (u := .type "int") (by rfl) T.int (by decide +kernel) rfl) pa_nil)))
      (pe_one (pe_not (pe_callB call_isi (by rfl) T.isi PyProof.Rows.boot_isinstance (pa_cons (pv 0) (pa_cons (pe_bltn (v := .ty "bool") (u := .type "bool") (by rfl) T.bool (by decide +kernel) rfl) pa_nil))))))), ?_⟩
    refine ⟨_, rfl, v, .ty "int", _, _, _, rfl, .ty _, hd.ty, isi_int K d, _, rfl, ?_⟩
    cases d with
    | int j =>
      cases hd
      exact ifT rfl ⟨_, rfl, .int j, .ty "bool", _, _, _, rfl, .ty _, .base (.int j), isi_bool K (.int j), _, rfl, q⟩
    | bool j =>
      cases hd
      exact ifT rfl ⟨_, rfl, .bl j, .ty "bool", _, _, _, rfl, .ty _, .base (.bl j), isi_bool K (.bool j), _, rfl, q⟩
    | _ => exact ifF rfl q
def lowB (c : Nat) : Bool := decide (97 ≤ c) && decide (c ≤ 122)
theorem lowB_alpha (c : Nat) : decide (c ∈ alpha.cps.toList) = lowB c := by
  rw [alpha_list, Bool.eq_iff_iff]
  simp only [decide_eq_true_eq, lowB, Bool.and_eq_true, List.mem_cons, List.mem_nil_iff, or_false]
  omega
theorem low_alpha : ∀ c, c < 128 → lowB c = true → Unicode.isAlpha c = true := by decide +kernel
theorem low_lower : ∀ c, c < 128 → lowB c = true → Unicode.isLower c = true := by decide +kernel
theorem low_upper : ∀ c, c < 128 → lowB c = true → (Unicode.isUpper c || Unicode.isTitle c) = false := by decide +kernel
theorem alpha_low : ∀ c, c < 128 → Unicode.isAlpha c = true → (Unicode.isUpper c || Unicode.isTitle c) = false → lowB c = true := by decide +kernel
theorem low_all (z : Str) : (Txt.isascii z && (Txt.isalpha z && Txt.islower z)) = (decide (1 ≤ z.length) && z.cps.toList.all lowB) := by
  have e1 : Txt.isascii z = z.cps.toList.all (fun c => decide (c < 128)) := by unfold Txt.isascii; rw [← Array.all_toList]
  have e2 : Txt.isalpha z = (decide (1 ≤ z.length) && z.cps.toList.all Unicode.isAlpha) := by unfold Txt.isalpha; rw [← Array.all_toList]; rfl
  have e3 : Txt.islower z = (z.cps.toList.any Unicode.isLower && !z.cps.toList.any fun c => Unicode.isUpper c || Unicode.isTitle c) := by unfold Txt.islower; rw [← Array.any_toList, ← Array.any_toList]
  have ln : z.length = z.cps.toList.length := by rw [Array.length_toList]; rfl
  rw [e1, e2, e3, ln]
  generalize z.cps.toList = l
  rw [Bool.eq_iff_iff]
  constructor
  · intro h
    simp only [Bool.and_eq_true, List.all_eq_true, Bool.not_eq_true', decide_eq_true_eq] at h ⊢
    obtain ⟨ha, ⟨h1, hb⟩, _, hu⟩ := h
    refine ⟨h1, fun c hc => alpha_low c (ha c hc) (hb c hc) ?_⟩
    cases hx : (Unicode.isUpper c || Unicode.isTitle c) with
    | false => rfl
    | true =>
      have : (l.any fun c => Unicode.isUpper c || Unicode.isTitle c) = true := List.any_eq_true.mpr ⟨c, hc, hx⟩
      rw [this] at hu
      cases hu
  · intro h
    simp only [Bool.and_eq_true, List.all_eq_true, Bool.not_eq_true', decide_eq_true_eq] at h ⊢
    obtain ⟨h1, hl⟩ := h
    have lt : ∀ c ∈ l, c < 128 := fun c hc => by
      have := hl c hc
      simp only [lowB, Bool.and_eq_true, decide_eq_true_eq] at this
      omega
    refine ⟨lt, ⟨h1, fun c hc => low_alpha c (lt c hc) (hl c hc)⟩, ?_, ?_⟩
    · match l, h1 with
      | c :: r, _ => exact List.any_eq_true.mpr ⟨c, List.mem_cons_self, low_lower c (lt c List.mem_cons_self) (hl c List.mem_cons_self)⟩
    · rw [List.any_eq_false]
      intro c hc
      rw [low_upper c (lt c hc) (hl c hc)]
      decide
abbrev NPn : List Str := ["thing"]
theorem scPn : FnScope NPn ["thing"] (defScope sPName) := ⟨rfl, rfl, rfl, by decide +kernel, rfl, by decide +kernel, by decide +kernel⟩
theorem ok_pname {f : Addr} {fd : FuncData} (F : Fun K "is_name" "is_name" sPName f fd) (T : TxtP mg fI fN fS fA fG) : FnOk P w K mg base CX0 1 f fd ["thing"] (spName K) := by
  refine F.ok scPn (fun vs H Q E h => ?_) (fun cdv A outer s H vs Q E hr h => ?_)
  · obtain ⟨m, l, v, d, rfl, _⟩ := h
    rfl
  · obtain ⟨m, l, v, d, rfl, hd, hz, q⟩ := h
    obtain ⟨tl, gl⟩ := T.lN
    refine ⟨_, pss_cons (ps_if (PW.pt (pw_or (pt_not (pt_val (pe_callB call_isi (by rfl) T.isi PyProof.Rows.boot_isinstance (pa_cons (pv 0) (pa_cons (pe_bltn (v := .ty "str") (u := .type "str") (by rfl) T.str (by decide +kernel) rfl) pa_nil)))))
        (pw_or1 (pt_cmpR op_gt (pe_callB call_len (by rfl) T.len PySem.boot_len (pa_cons (pv 0) pa_nil)) (pe_glob (v := .int 8) rfl gl ⟨_, rfl⟩) (nomark _))))) (pss_one (ps_ret pe_bl)) pss_nil)
      (pss_one (ps_ret (pe_and (pe_m0 PySem.F.slot_str_isascii PySem.F.type_str_isascii mt_isascii (pv 0)) (pe_and (pe_m0 PySem.F.slot_str_isalpha PySem.F.type_str_isalpha mt_isalpha (pv 0)) (pe_one (pe_m0 PySem.F.slot_str_islower PySem.F.type_str_islower mt_islower (pv 0))))))), ?_⟩
    refine ⟨_, rfl, v, .ty "str", _, _, _, rfl, .ty _, hd.ty, isi_str K d, _, rfl, ?_⟩
    cases d with
    | str z =>
      cases hd
      have zk := hz z rfl
      have zs : z.length ≤ sizeLine := by rw [sizeLine_eq]; have := zk.1; omega
      have en : isName (.str z) = (decide (z.length ≤ 8) && (Txt.isascii z && (Txt.isalpha z && Txt.islower z))) := by
        rw [low_all]
        show ((decide (1 ≤ z.length) && decide (z.length ≤ 8)) && z.cps.toList.all fun c => decide (c ∈ alpha.cps.toList)) = _
        have ef : (fun c => decide (c ∈ alpha.cps.toList)) = lowB := funext lowB_alpha
        rw [ef]
        cases decide (1 ≤ z.length) <;> cases decide (z.length ≤ 8) <;> rfl
      refine ifF rfl ?_
      refine ⟨_, rfl, .str z, z.length, rfl, ⟨zs, rfl⟩, (z.length : Int), 8, rfl, rfl, _, rfl, ite_b (fun e8 => ?_) (fun e8 => ?_)⟩
      · have : decide (z.length ≤ 8) = false := by
          have := of_decide_eq_true e8
          exact decide_eq_false (by omega)
        rw [en, this] at q
        exact q H (fun _ _ e => e)
      · have : decide (z.length ≤ 8) = true := by
          have := of_decide_eq_false e8
          exact decide_eq_true (by omega)
        rw [en, this, Bool.true_and] at q
        refine ⟨_, rfl, ⟨_, rfl⟩, z, rfl, rfl, trivial, _, rfl, ite_b (fun ea => ?_) (fun ea => ?_)⟩
        · rw [ea, Bool.true_and] at q
          refine ⟨_, rfl, ⟨_, rfl⟩, z, rfl, rfl, trivial, _, rfl, ite_b (fun eb => ?_) (fun eb => ?_)⟩
          · rw [eb, Bool.true_and] at q
            exact ⟨_, rfl, ⟨_, rfl⟩, z, rfl, rfl, trivial, q H (fun _ _ e => e)⟩
          · rw [eb] at q
            exact q H (fun _ _ e => e)
        · rw [ea] at q
          exact q H (fun _ _ e => e)
    | _ => exact ifT rfl (ifT rfl (q H (fun _ _ e => e)))
/-! is_setting -/
abbrev NPs : List Str := ["thing", "name", "most"]
theorem scPs : FnScope NPs ["thing"] (defScope sPSet) := ⟨rfl, rfl, rfl, by decide +kernel, rfl, by decide +kernel, by decide +kernel⟩
theorem isWhole_int (d : PyData) (lo hi : Int) (h : isInt d = false) : isWhole d lo hi = false := by cases d <;> first | rfl | cases h
def spPSet (K : PySem.W.Frag) : Sp := fun vs H Q _ => ∃ (m l : Addr) (v : V) (d : PyData) (B b : Nat), vs = [v] ∧ Dq K H m l v d ∧ Gd B 100000 b d ∧ ∀ H', Same H H' → Q (.bl (oneD d).isSome) H'
theorem ok_pset {f : Addr} {fd fdI fdN : FuncData} (F : Fun K "is_setting" "is_setting" sPSet f fd) (T : TxtP mg fI fN fS fA fG) (FI : Fun K "is_int" "is_int" sPInt fI fdI) (bI : Binds K fdI ["thing"] [])
    (FN : Fun K "is_name" "is_name" sPName fN fdN) (bN : Binds K fdN ["thing"] []) : FnOk P w K mg base CX0 2 f fd ["thing"] (spPSet K) := by
  have GI : FnOk P w K mg base CX0 1 fI fdI ["thing"] (spPInt K) := ok_pint FI T
  have GN : FnOk P w K mg base CX0 1 fN fdN ["thing"] (spName K) := ok_pname FN T
  refine F.ok scPs (fun vs H Q E h => ?_) (fun cdv A outer s H vs Q E hr h => ?_)
  · obtain ⟨m, l, v, d, B, b, rfl, _⟩ := h
    rfl
  · obtain ⟨m, l, v, d, B, b, rfl, hd, gd, q⟩ := h
    obtain ⟨tv, gv⟩ := T.mV
    refine ⟨_, pss_cons (ps_if (PW.pt (pw_or (pt_not (pt_val (pe_callB call_isi (by rfl) T.isi PyProof.Rows.boot_isinstance (pa_cons (pv 0) (pa_cons (pe_bltn (v := .ty "tuple") (u := .type "tuple") (by rfl) T.tuple (by decide +kernel) rfl) pa_nil)))))
        (pw_or1 (pt_cmpR op_ne (pe_callB call_len (by rfl) T.len PySem.boot_len (pa_cons (pv 0) pa_nil)) pe_int (nomark _))))) (pss_one (ps_ret pe_bl)) pss_nil)
      (pss_cons (ps_asg (pv 0) (pg_tup rfl (pgs_cons (pg_name (i := 1) scPs.nd rfl (Or.inl rfl)) (pgs_cons (pg_name (i := 2) scPs.nd rfl (Or.inl rfl)) pgs_nil))))
      (pss_one (ps_ret (pe_and (pe_call GN hr rfl T.gN FN.kp bN .nil pass0 (pa_cons (pv 1) pa_nil)) (pe_and (pe_call GI hr rfl T.gI FI.kp bI .nil pass0 (pa_cons (pv 2) pa_nil)) (pe_one (pe_chain op_le op_le pe_int (pv 2) (pe_glob (v := .int 3) rfl gv ⟨_, rfl⟩)))))))), ?_⟩
    refine ⟨_, rfl, v, .ty "tuple", _, _, _, rfl, .ty _, hd.ty, isi_tup K d, _, rfl, ?_⟩
    cases d with
    | tuple es =>
      cases hd with
      | tup hq hy =>
        rename_i a ys
        have ly := hy.len
        refine ifF rfl ⟨_, rfl, .ref a, ys.length, rfl, .inr ⟨ys, hq, rfl⟩, rfl, _, rfl, ite_b (fun e => ?_) (fun e => ?_)⟩
        · have : oneD (.tuple es) = none := oneD_len (fun z => by
            rw [ly, z] at e
            exact absurd e (by decide))
          rw [this] at q
          exact q H (Same.refl H)
        have l2 : ys.length = 2 := by
          have q1 : decide (V.int ((ys.length : Nat) : Int) = V.int 2) = true := by simpa using e
          have q2 := of_decide_eq_true q1
          have q3 : ((ys.length : Nat) : Int) = 2 := by injection q2
          omega
        obtain ⟨y0, y1, rfl⟩ : ∃ y0 y1, ys = [y0, y1] := by
          match ys, l2 with
          | [y0, y1], _ => exact ⟨y0, y1, rfl⟩
        obtain ⟨d0, d1, rfl⟩ : ∃ d0 d1, es = [d0, d1] := by
          match es, ly with
          | [d0, d1], _ => exact ⟨d0, d1, rfl⟩
        obtain ⟨q0, q1⟩ : Dq K H m l y0 d0 ∧ Dq K H m l y1 d1 := by
          cases hy with
          | cons h0 h1 => cases h1 with | cons h1 _ => exact ⟨h0, h1⟩
        obtain ⟨c2, eb2, g2⟩ := Gd.untup gd
        have w0 : ∀ z, d0 = .str z → sOk 100000 z := fun z ez => by
          have gz := g2.at (i := 0) (d := d0) rfl
          rw [ez] at gz
          have ww := g2.wt
          refine gz.unstr.mono ?_
          rw [ez] at ww
          simp only [PyData.weightAll, PyData.weight] at ww ⊢
          omega
        refine ⟨_, rfl, a, _, rfl, hq, rfl, _, _, rfl, _, _, rfl, rfl, ?_⟩
        refine ⟨_, rfl, m, l, y0, d0, rfl, q0, w0, fun H3 s3 => ⟨_, rfl, ite_b (fun e => ?_) (fun e => ?_)⟩⟩
        · have hn : isName d0 = true := e
          refine ⟨_, rfl, m, l, y1, d1, rfl, Dq.same s3 d1 y1 q1, _, rfl, ite_b (fun e => ?_) (fun e => ?_)⟩
          · obtain ⟨j, rfl⟩ : ∃ j, d1 = .int j := by
              cases d1 <;> first | exact ⟨_, rfl⟩ | cases e
            cases q1
            refine ⟨_, rfl, 1, j, rfl, rfl, _, rfl, ite_b (fun e => ⟨j, 3, rfl, rfl, ?_⟩) (fun e => ?_)⟩
            · have ew : (oneD (.tuple [d0, .int j])).isSome = decide (j ≤ 3) := by
                cases hw : isWhole (.int j) 1 3 with
                | true =>
                  obtain ⟨z, c, _, ec, c1, c3, eo⟩ := oneD_ok hn hw
                  cases ec
                  rw [eo]; simp [c3]
                | false =>
                  rw [oneD_whole hw]
                  have z : (decide (1 ≤ j) && decide (j ≤ 3)) = false := hw
                  rw [e, Bool.true_and] at z
                  rw [z]; rfl
              rw [ew] at q
              exact q _ s3
            · have hw : isWhole (.int j) 1 3 = false := by show (decide (1 ≤ j) && decide (j ≤ 3)) = false; rw [e]; rfl
              rw [oneD_whole hw] at q
              exact q _ s3
          · rw [oneD_whole (isWhole_int d1 1 3 e)] at q
            exact q _ s3
        · rw [oneD_name e] at q
          exact q _ s3
    | _ => exact ifT rfl (q H (Same.refl H))
/-! names_of -/
abbrev NPa : List Str := ["settings", "name", "most"]
theorem scPa : FnScope NPa ["settings"] (defScope sPNames) := ⟨rfl, rfl, rfl, by decide +kernel, rfl, by decide +kernel, by decide +kernel⟩
def spPNames (K : PySem.W.Frag) : Sp := fun vs H Q _ => ∃ (a : Addr) (xs : List V) (qs : List (Str × Int)), vs = [.ref a] ∧ SqT K H a xs ∧ PrTs K H xs qs ∧ qs.length ≤ 900 ∧
  ∀ D, H D = none → ∀ H', Same H H' → H' D = some (.lst ((qs.map (·.1)).map V.str)) → Q (.ref D) H'
theorem ok_pnames {f : Addr} {fd : FuncData} (F : Fun K "names_of" "names_of" sPNames f fd) : FnOk P w K mg base CX0 1 f fd ["settings"] (spPNames K) := by
  refine F.ok scPa (fun vs H Q E h => ?_) (fun cdv A outer s H vs Q E hr h => ?_)
  · obtain ⟨a, xs, qs, rfl, _⟩ := h
    rfl
  · obtain ⟨a, xs, qs, rfl, hs, hp, hl, q⟩ := h
    refine ⟨_, pss_one (ps_ret (pe_lc (own := [("name", 1), ("most", 2)]) (g := gTup K 2 (gCons (gName 1) (gCons (gName 2) gNil))) (by rfl) scPa.nd (pi_tup (pv 0)) (blkOk_by (own := [("name", 1), ("most", 2)]) (N := NPa) (sc := defScope sPNames) (by decide +kernel))
        (fun _ _ _ _ _ => pg_tup rfl (pgs_cons (pg_name (i := 1) scPa.nd rfl (Or.inl rfl)) (pgs_cons (pg_name (i := 2) scPa.nd rfl (Or.inl rfl)) pgs_nil))) (fun _ _ _ _ _ => pts_nil) (fun _ _ _ _ _ => pv 1))), ?_⟩
    have ll := hp.len
    refine ⟨_, rfl, a, rfl, ⟨_, hs⟩, fun D hD => ?_⟩
    refine lc_it (walk_tup (xs := xs)) (fun i H3 => H3 = upd H D (.lst (((qs.take i).map (·.1)).map V.str))) rfl (fun i H3 _ e3 => by rw [e3]; exact Same.seqT (Same.upd hD) hs) ?_ ?_
    · rintro i x H3 H4 hi e3 ⟨rfl, hx⟩
      obtain ⟨qq, hq, b, rfl, hb⟩ := hp.get hx
      have hb3 : SqT K H4 b [.str qq.1, .int qq.2] := by rw [e3]; exact Same.seqT (Same.upd hD) hb
      have ti : qs.take (i + 1) = qs.take i ++ [qq] := by rw [List.take_succ, hq]; rfl
      refine ⟨b, _, rfl, hb3, rfl, _, _, rfl, _, _, rfl, rfl, rfl, tyes ⟨_, rfl, _, by rw [e3]; exact upd_same, small1000 (by rw [List.length_map, List.length_map, List.length_take]; omega), ?_⟩⟩
      show upd H4 D _ = _
      rw [e3, upd_upd, ti, List.map_append, List.map_append]
      rfl
    · rintro H3 e3
      rw [List.take_of_length_le (by omega)] at e3
      exact q D hD H3 (e3 ▸ Same.upd hD) (by rw [e3, upd_same])
/-! grid_of -/
abbrev NPg : List Str := ["settings", "rows", "name", "most", "row", "value"]
theorem scPg : FnScope NPg ["settings"] (defScope sPGrid) := ⟨rfl, rfl, rfl, by decide +kernel, rfl, by decide +kernel, by decide +kernel⟩
def spPGrid (K : PySem.W.Frag) : Sp := fun vs H Q _ => ∃ (a : Addr) (xs : List V) (qs : List (Str × Int)), vs = [.ref a] ∧ SqT K H a xs ∧ PrTs K H xs qs ∧ qs.length ≤ 3 ∧ (∀ q ∈ qs, 1 ≤ q.2 ∧ q.2 ≤ 3) ∧
  ∀ D as H', H D = none → Same H H' → H' D = some (.lst (as.map V.ref)) → Rws H' as (grid qs) → (∀ b ∈ as, H b = none) → Q (.ref D) H'
theorem fold_row {k : Nat} : ∀ (qs : List (Str × Int)) (rs : List (List Int)) (k : Nat), (∀ r ∈ rs, r.length = k) → ∀ r ∈ qs.foldl (fun rs q => widen rs (q.2 + 1).toNat) rs, r.length = k + qs.length
  | [], rs, k, h => fun r hr => h r hr
  | q :: qs, rs, k, h => fun r hr => by
    have z := fold_row (k := k) qs (widen rs (q.2 + 1).toNat) (k + 1) (fun r hr => by
      unfold widen at hr
      obtain ⟨y, hy, hr⟩ := List.mem_flatMap.mp hr
      obtain ⟨v, _, rfl⟩ := List.mem_map.mp hr
      rw [List.length_append, h y hy]; rfl) r hr
    rw [z, List.length_cons]; omega
theorem grid_row (qs : List (Str × Int)) : ∀ r ∈ grid qs, r.length = qs.length := fun r hr => by
  have z := fold_row (k := 0) qs [[]] 0 (fun r hr => by rw [List.mem_singleton.mp hr]; rfl) r hr
  rw [z]; omega
structure Acc (H0 H1 H : Hp) (D : Addr) (as : List Addr) (rs : List (List Int)) : Prop where
  rws : Rws H as rs
  far : ∀ b ∈ as, b ≠ D ∧ H0 b = none
  at_ : H D = some (.lst (as.map V.ref))
  same : Same H1 H
theorem Acc.more {H0 H1 H : Hp} {D p : Addr} {as : List Addr} {rs : List (List Int)} {r : List Int} (A : Acc H0 H1 H D as rs) (s : Same H0 H1) (hD : H1 D = none) (hp : H p = none) :
    Acc H0 H1 (upd (upd H p (.tup (r.map V.int))) D (.lst (as.map V.ref ++ [.ref p]))) D (as ++ [p]) (rs ++ [r]) := by
  have nD : p ≠ D := fun e => by rw [e, A.at_] at hp; cases hp
  have sp : Same H (upd H p (.tup (r.map V.int))) := Same.upd hp
  refine ⟨Rws.snoc (Rws.same (fun b o hb e => ?_) A.rws) ?_, fun b hb => ?_, ?_, fun b o e => ?_⟩
  · rw [upd_ne (A.far b hb).1]; exact sp _ _ e
  · rw [upd_ne nD, upd_same]
  · rcases List.mem_append.mp hb with hb | hb
    · exact A.far b hb
    · rw [List.mem_singleton.mp hb]
      exact ⟨nD, Same.free s (Same.free A.same hp)⟩
  · rw [upd_same, List.map_append]; rfl
  · have nb : b ≠ D := ne_of_none e hD
    rw [upd_ne nb]; exact sp _ _ (A.same _ _ e)
theorem widen_take {rs : List (List Int)} {n i : Nat} {r : List Int} (h : rs[i]? = some r) : widen (rs.take (i + 1)) n = widen (rs.take i) n ++ (List.range n).map fun (v : Nat) => r ++ [(v : Int)] := by
  unfold widen
  rw [List.take_succ, h, List.flatMap_append]
  simp
theorem range_more {n : Nat} {r : List Int} : ((List.range (n + 1)).map fun (v : Nat) => r ++ [(v : Int)]) = ((List.range n).map fun (v : Nat) => r ++ [(v : Int)]) ++ [r ++ [(n : Int)]] := by
  rw [List.range_succ, List.map_append]; rfl
theorem ok_pgrid {f : Addr} {fd : FuncData} (F : Fun K "grid_of" "grid_of" sPGrid f fd) (T : TxtP mg fI fN fS fA fG) : FnOk P w K mg base CX0 1 f fd ["settings"] (spPGrid K) := by
  refine F.ok scPg (fun vs H Q E h => ?_) (fun cdv A outer s H vs Q E hr h => ?_)
  · obtain ⟨a, xs, qs, rfl, _⟩ := h
    rfl
  · obtain ⟨a, xs, qs, rfl, hs, hp, hl, hb, q⟩ := h
    refine ⟨_, pss_cons (ps_set (i := 1) scPg.nd rfl (by first | exact Or.inl rfl | exact Or.inr rfl) (pe_lst (pa_cons (pe_tup pa_nil) pa_nil)))
      (pss_cons (ps_for PassesOwn.never rfl (pi_tup (pv 0)) (pg_tup rfl (pgs_cons (pg_name (i := 2) scPg.nd rfl (by first | exact Or.inl rfl | exact Or.inr rfl)) (pgs_cons (pg_name (i := 3) scPg.nd rfl (by first | exact Or.inl rfl | exact Or.inr rfl)) pgs_nil)))
        (pss_one (ps_setLc2 (i := 1) (own := [("row", 4), ("value", 5)]) (vs1 := [5]) (g := gName 4) (g1 := gName 5) (tt := tYes) (tt1 := tYes) (te := tTup (StX.tStar K (tVar 4) (tCons (tVar 5) tNil))) (by rfl) scPg.nd rfl rfl (sw_true rfl rfl rfl (by decide +kernel)) (pi_list (pv 1)) (blkOk_by (own := [("row", 4), ("value", 5)]) (N := NPg) (sc := defScope sPGrid) (by decide +kernel)) (by decide)
          (fun _ _ _ _ _ => pg_name (i := 4) scPg.nd rfl (by first | exact Or.inl rfl | exact Or.inr rfl)) (fun _ _ _ _ _ => pts_nil) (fun _ _ _ _ _ => pi_range1 (by rfl) T.range (pa_cons (pe_op op_add (pv 3) pe_int) pa_nil))
          (fun _ _ _ _ _ => pg_name (i := 5) scPg.nd rfl (by first | exact Or.inl rfl | exact Or.inr rfl)) (fun _ _ _ _ _ => pts_nil) (fun _ _ _ _ _ => pe_tup (StX.pa_star (pv 4) (pa_cons (pv 5) pa_nil))))))
      (pss_one (ps_ret (pv 1)))), ?_⟩
    have ll := hp.len
    refine ⟨Nat.zero_le _, fun p0 h0 => ⟨(by show 1 ≤ sizeLine; decide), fun R0 hR0 => ?_⟩⟩
    have s0 : Same H (upd H p0 (.tup [])) := Same.upd h0
    have s1 : Same H (upd (upd H p0 (.tup [])) R0 (.lst [.ref p0])) := s0.trans (Same.upd hR0)
    have nR0 : p0 ≠ R0 := fun e => by rw [← e, upd_same] at hR0; cases hR0
    refine ⟨_, rfl, a, rfl, ⟨_, Same.seqT s1 hs⟩, ?_⟩
    have tk1 : ∀ {i : Nat} {qq : Str × Int}, qs[i]? = some qq → grid (qs.take (i + 1)) = widen (grid (qs.take i)) (qq.2 + 1).toNat := fun {i qq} hq => by
      unfold grid
      rw [List.take_succ, hq, List.foldl_append]
      rfl
    refine for_it (walk_tup (xs := xs)) (fun i σ H2 => ∃ (R : Addr) (as : List Addr) (v2 v3 : Option V), σ = [some (.ref a), some (.ref R), v2, v3, none, none] ∧ Same H H2 ∧ H R = none ∧ H2 R = some (.lst (as.map V.ref)) ∧ Rws H2 as (grid (qs.take i)) ∧ (∀ b ∈ as, H b = none) ∧ as.length ≤ 4 ^ i)
      ⟨R0, [p0], none, none, rfl, s1, Same.free s0 hR0, upd_same, ?_, ?_, Nat.le_refl _⟩ (fun i σ H2 _ ⟨R, as, v2, v3, _, s2, _⟩ => Same.seqT s2 hs) ?_ ?_
    · rw [List.take_zero]
      refine .cons ?_ .nil
      rw [upd_ne nR0, upd_same]; rfl
    · intro b hb
      rw [List.mem_singleton.mp hb]; exact h0
    · rintro i x σ H2 H3 hi ⟨R, as, v2, v3, rfl, s2, hR, gR, rw2, far, al⟩ ⟨rfl, hx⟩
      obtain ⟨qq, hq, b, rfl, hb2⟩ := hp.get hx
      have hqb := hb qq (List.mem_of_getElem? hq)
      have i3 : i < 3 := by omega
      have a16 : as.length ≤ 16 := Nat.le_trans al (by
        match i, i3 with
        | 0, _ => decide
        | 1, _ => decide
        | 2, _ => decide)
      have rl := rw2.length
      obtain ⟨rs, ers⟩ : ∃ rs, rs = grid (qs.take i) := ⟨_, rfl⟩
      rw [← ers] at rw2 rl
      obtain ⟨n, en⟩ : ∃ n : Nat, n = (qq.2 + 1).toNat := ⟨_, rfl⟩
      have n4 : n ≤ 4 := by omega
      refine ⟨b, _, rfl, Same.seqT s2 hb2, rfl, _, _, rfl, _, _, rfl, rfl, ?_⟩
      refine ⟨_, rfl, R, rfl, ⟨_, SqL.of gR⟩, fun D hD => ?_⟩
      have sD : Same H3 (upd H3 D (.lst [])) := Same.upd hD
      refine lc2_it (walk_list (xs := as.map V.ref)) (fun k H4 => ∃ as', Acc H H3 H4 D as' (widen (rs.take k) n)) ⟨[], .nil, (fun b hb => nomatch hb), upd_same, sD⟩ (fun k H4 _ ⟨as', A⟩ => SqL.of (A.same _ _ gR)) ?_ ?_
      · rintro k x H4 H5 hk ⟨as', A⟩ ⟨rfl, hxk⟩
        have hk' : k < as.length := by rw [List.length_map] at hk; exact hk
        obtain ⟨bk, hbk⟩ : ∃ bk, as[k]? = some bk := ⟨_, List.getElem?_eq_getElem hk'⟩
        have ex : x = .ref bk := by
          rw [List.getElem?_map, hbk] at hxk
          exact (Option.some.inj hxk).symm
        subst ex
        obtain ⟨r, hr2, gk⟩ := rw2.get hbk
        refine ⟨rfl, tyes ⟨_, rfl, _, _, rfl, rfl, qq.2 + 1, rfl, by omega, by omega, ?_⟩⟩
        rw [← en]
        refine lc_in walk_range (fun j H6 => ∃ as2, Acc H H3 H6 D as2 (widen (rs.take k) n ++ (List.range j).map fun (v : Nat) => r ++ [(v : Int)])) ⟨as', by simpa using A⟩ (fun _ _ _ _ => True.intro) ?_ ?_
        · rintro j y H6 H7 hj ⟨as2, A2⟩ ⟨rfl, ey⟩
          have ey' : y = .int (j : Int) := ey.trans (congrArg V.int (by omega))
          subst ey'
          have rlen : r.length ≤ 900 := by
            have z := grid_row (qs.take i) r (ers ▸ List.mem_of_getElem? hr2)
            rw [z, List.length_take]; omega
          have al2 : as2.length ≤ 100 := by
            rw [A2.rws.length, List.length_append, List.length_map, List.length_range, widen_len]
            have h1 : (rs.take k).length ≤ 16 := by rw [List.length_take]; omega
            have h2 := Nat.mul_le_mul h1 n4
            omega
          refine ⟨rfl, tyes ⟨_, rfl, bk, _, rfl, .inl (.inl (.inl (A2.same _ _ gk))), _, rfl, ?_, fun p hp7 => ?_⟩⟩
          · rw [List.length_append, List.length_map, List.length_singleton]
            exact Nat.le_of_lt (small1000 (by omega))
          have nD : D ≠ p := ne_of_none A2.at_ hp7
          have er : (r.map V.int ++ [.int (j : Int)] : List V) = (r ++ [(j : Int)]).map V.int := by rw [List.map_append]; rfl
          rw [er]
          refine ⟨_, by rw [upd_ne nD]; exact A2.at_, small1000 (by rw [List.length_map]; omega), as2 ++ [p], ?_⟩
          rw [range_more, ← List.append_assoc]
          exact A2.more s2 hD hp7
        · rintro H6 ⟨as2, A2⟩
          rw [← widen_take hr2] at A2
          exact ⟨as2, A2⟩
      · rintro H4 ⟨as', A⟩
        rw [List.length_map, List.take_of_length_le (by omega)] at A
        have l1 := A.rws.length
        refine ⟨D, as', _, _, rfl, s2.trans A.same, Same.free s2 hD, A.at_, ?_, fun b hb => (A.far b hb).2, ?_⟩
        · rw [tk1 hq, ← ers, ← en]; exact A.rws
        · rw [l1, widen_len, Nat.pow_succ, ← rl]
          exact Nat.mul_le_mul al n4
    · rintro σ H2 ⟨R, as, v2, v3, rfl, s2, hR, gR, rw2, far, al⟩
      rw [List.take_of_length_le (by omega)] at rw2
      exact ⟨_, rfl, q R as H2 hR s2 gR rw2 far⟩
end
end Ms
namespace Ms
open PySem PySem.Spec PyProof.Rows L2 LamX
/-! ### a law's own def that makes lambdas: its table of code objects is told -/
section
variable {P : Program} {w : World} {K : PySem.W.Frag} {mg : Str → Option Value} {base : Heap}
/-- as run_known, and the code object is told -/
theorem run_code {x qual : Str} {st : Stmt} {f : Addr} {fd : FuncData} {N ps : List Str} {k : Nat} (F : Fun K x qual st f fd) (S : FnScope N ps (defScope st))
    {A : Around} {outer : List Env} {s : Shared} {H : Hp} {args : Args} {us : List Value} {vs : List V} {Q : VK} {E : XK}
    (gA : A.guards = some []) (rm : Room (k + 1) A) (st0 : Env0 P w K mg base A outer s H) (bd : BindsTo s fd args (ps.zip us)) (rel : Vals vs us) (ln : vs.length = ps.length)
    (walk : ∀ cdv : Value, fd.code = cdv → Room k (A.deeper (envOfC qual (defScope st) s.heap.objs.size f cdv)) →
      ∃ t, PSs (cxOf CX0 P w K mg base N qual (defScope st) f cdv A outer s H E).nox (defBody st) t ∧ t { nx := fun _ H' => Q .non H', rt := Q } (start N vs) H) :
    codeAny (model P w) A (.call (.ref f) args) (CR CX0 outer P w H s Q E) s := by
  obtain ⟨oc, od, kV, doc, pm, an, cdv0, ct, osl, efd, atK, code⟩ := F.ex
  have ec : fd.code = cdv0 := by rw [efd]
  subst efd
  have inH : K.In s.heap := st0.mod.kin.keeps fun b o q => (st0.bs b o q).1
  have noLim : s.heap.NoLimit := st0.mod.nolimit.keeps fun b o q => (st0.bs b o q).1
  have kinds : ∀ y ∈ ps.zip us, (defScope st).names.lookup y.1 = some .local ∨ ((defScope st).names.lookup y.1 = some .cell ∧ ((cellsFrom (s.heap.objs.size + 1) (defScope st).names []).lookup y.1).isSome = true) := by
    rintro ⟨n, v⟩ hy
    rcases S.par n (List.of_mem_zip hy).1 with z | z
    · exact Or.inl z
    · exact Or.inr ⟨z, PySem.W.cellsFrom_some _ _ _ (.inl z)⟩
  refine codeAny_call_function rm.depth (inH _ _ atK) rfl S.co S.gen rfl (PySem.W.codeRec_of inH code) (bd _ _ _ _ ?_)
  refine wpAny_newFunctionEnv_cells S.kind kinds fun env eq s1 inC => ?_
  subst eq
  refine And.intro (noLim.keeps inC.toInCall.keep) (codeAny_func ?_)
  obtain ⟨t, derives, reads⟩ := walk cdv0 ec (rm.deeper _)
  have I := inv_start (CX := CX0) (P := P) (mg := mg) (base := base) (E := E) S rm.hd st0 ln rel inC
  refine wpAny_mono (derives.nox.run [] s1 (start N vs) H _ I reads) (fun fl s' hs => ?_) fun e s' hs => hs
  cases fl with
  | ret u =>
    obtain ⟨v, σ', H', J, rv, q⟩ := hs
    exact ⟨v, H', J.os, J.bare, J.base, J.hok, rv, q⟩
  | next =>
    obtain ⟨σ', H', J, q⟩ := hs
    exact ⟨V.non, H', J.os, J.bare, J.base, J.hok, rfl, q⟩
  | brk => obtain ⟨_, _, _, q⟩ := hs; exact q.elim
  | cont => obtain ⟨_, _, _, q⟩ := hs; exact q.elim

/-- as LawRun; c the law's code object, T its table, empty as yet -/
def LawRunT (P : Program) (w : World) (K : PySem.W.Frag) (mg : Str → Option Value) (fa c T : Addr) : Prop :=
  ∀ (base : Heap) (H : Hp) (s : Shared) (a : Addr) (ns : List Int), K.In base → base.Ns mainGlobals mg → TabB base mg c T → H T = some (.tbl #[]) → SqL K H a (ns.map V.int) → ns.length ≤ 63 → Env0 P w K mg base callerA [] s H →
    codeAny (model P w) callerA (.call (.ref fa) ⟨[.ref a], []⟩) (CR CX0 [] P w H s (fun v _ => v = .bl true) fun _ _ _ => False) s
/-- the script and the table stand alone in the heap that is told -/
structure AloneT (H : Hp) (h : Heap) (K : PySem.W.Frag) (a T : Addr) : Prop where
  only : ∀ b, H b = none ∨ b = T ∨ ∃ ob xs, H b = some (.frz ob (.lst xs))
  here : ∀ b, H b ≠ none → b = a ∨ b = T
  off : H a ≠ none → K.lookup a = none
  offT : K.lookup T = none
  tab : h.get? T = some { cls := .none, data := .fields #[] }
  told : H T = some (.tbl #[])
section
variable {H : Hp} {h : Heap} {a c T : Addr} {vs : Array Value}
theorem AloneT.hidden (x : AloneT H h K a T) (ea : h.get? a = some { cls := .type "list", data := .seq vs }) {b : Addr} {o : Obj} (e : h.get? b = some o) (d1 : o.data ≠ .seq vs) (d2 : o.data ≠ .fields #[]) : H b = none := by
  cases q : H b with
  | none => rfl
  | some u =>
    rcases x.here b (by rw [q]; exact fun z => nomatch z) with z | z
    · subst z
      rw [ea] at e
      cases e
      exact absurd rfl d1
    · subst z
      rw [x.tab] at e
      cases e
      exact absurd rfl d2
theorem AloneT.get (x : AloneT H h K a T) (ea : h.get? a = some { cls := .type "list", data := .seq vs }) {b : Addr} {o : Obj} (e : h.get? b = some o) (d1 : o.data ≠ .seq vs) (d2 : o.data ≠ .fields #[]) : (hidT h H).get? b = some o := hidT_get e (x.hidden ea e d1 d2)
theorem AloneT.ns (x : AloneT H h K a T) (ea : h.get? a = some { cls := .type "list", data := .seq vs }) {b : Addr} {m : Str → Option Value} (n : h.Ns b m) : (hidT h H).Ns b m := by
  obtain ⟨o, es, ep, e, d, r⟩ := n
  refine ⟨o, es, ep, x.get ea e ?_ ?_, d, r⟩ <;> (rw [d]; intro z; cases z)
theorem AloneT.kin (x : AloneT H h K a T) (X : K.In h) : K.In (hidT h H) := fun b o e => by
  refine hidT_get (X b o e) ?_
  cases q : H b with
  | none => rfl
  | some u =>
    rcases x.here b (by rw [q]; exact fun z => nomatch z) with z | z
    · subst z
      rw [x.off (by rw [q]; exact fun z => nomatch z)] at e
      cases e
    · subst z
      rw [x.offT] at e
      cases e
theorem AloneT.hd (x : AloneT H h K a T) (ea : h.get? a = some { cls := .type "list", data := .seq vs }) (C : PySem.W.CodeHd h c T) : PySem.W.CodeHd (hidT h H) c T := by
  obtain ⟨o, us, f, tf, g, tg, inF, n, tt, e, r1, r2, r3, r⟩ := C
  refine ⟨o, us, f, tf, g, tg, inF, n, tt, x.get ea e ?_ ?_, r1, r2, r3, r⟩
  · rw [r2]; intro z; cases z
  · intro z
    rw [r2] at z
    cases z
    simp at r3
end
theorem law_told {fa a c T : Addr} {s : Shared} {vs : List Value} {ns : List Int} {mb : Str → Option Value} {H : Hp} (R : LawRunT P w K mg fa c T) (al : AloneT H s.heap K a T)
    (X : K.In s.heap) (g : s.heap.Ns mainGlobals mg) (b : s.heap.Ns builtinsNs mb) (bb : ∀ x : Str, x ≠ "__name__" → mb x = bootBuiltins x) (lim : s.heap.NoLimit) (gs : s.gens = #[]) (C : PySem.W.CodeHd s.heap c T)
    (bm : ∃ (bm : Addr) (ob : Obj), mg "__builtins__" = some (.ref bm) ∧ bm ≠ builtinsNs ∧ s.heap.get? bm = some ob ∧ ob.cls = .type "module" ∧ ob.dict = some builtinsNs ∧ ob.data = .plain)
    (ea : s.heap.get? a = some { cls := .type "list", data := .seq vs.toArray }) (hS : SqL K H a (ns.map V.int)) (hl : ns.length ≤ 63) (ok : HOk P w H s.heap) :
    codeAny (model P w) callerA (.call (.ref fa) ⟨[.ref a], []⟩) (fun r s' => r = .ok (.ret (.bool true)) ∧ OldK s.heap s'.heap ∧ s'.os = s.os ∧ AllBare s'.gens) s := by
  have gT : mainGlobals ≠ T := fun z => by
    obtain ⟨o, es, ep, e, d, _⟩ := g
    rw [z, al.tab] at e
    cases e
    cases d
  have M : L2.Mod K mg (hidT s.heap H) := by
    refine ⟨al.kin X, al.ns ea g, ⟨mb, al.ns ea b, bb⟩, ?_⟩
    obtain ⟨mc, l1, l2⟩ := lim
    exact ⟨mc, al.ns ea l1, l2⟩
  have TB : TabB (hidT s.heap H) mg c T := by
    refine ⟨al.hd ea C, ?_, gT⟩
    obtain ⟨q, ob, b1, b2, b3, b4, b5, b6⟩ := bm
    have nG : q ≠ mainGlobals := fun z => by
      obtain ⟨o, es, ep, e, d, _⟩ := g
      rw [z, e] at b3
      cases b3
      rw [d] at b6
      cases b6
    have nT : q ≠ T := fun z => by
      rw [z, al.tab] at b3
      cases b3
      cases b6
    refine ⟨q, ob, b1, b2, nG, nT, al.get ea b3 ?_ ?_, b4, b5, b6⟩ <;> (rw [b6]; intro z; cases z)
  have st0 : Env0 P w K mg (hidT s.heap H) callerA [] s H := by
    refine ⟨rfl, M, fun b o e => of_hidT e, Nat.le_of_eq (hidT_size _ _), trivial, fun b hb => ?_, ok, AllBare.of_eq gs⟩
    cases (show b ∈ ([] : List Addr) from hb)
  refine codeAny_mono (R _ H s a ns M.kin M.glob TB al.told hS hl st0) fun r s' q => ?_
  match r, q with
  | .error e, q => exact False.elim q
  | .ok (.next), q => exact False.elim q
  | .ok (.brk), q => exact False.elim q
  | .ok (.cont), q => exact False.elim q
  | .ok (.ret u), q =>
    obtain ⟨v, H', eos, bare, un, ok', rv, qv⟩ := q
    have qv' : v = .bl true := qv
    subst qv'
    obtain rfl : u = Value.bool true := rv
    obtain ⟨more, hm⟩ := un.tbls T #[] al.told
    have eT : s'.heap.get? T = some { cls := .none, data := .fields (#[] ++ more) } := ok' T _ hm
    have other : ∀ b o, b ≠ T → s.heap.get? b = some o → s'.heap.get? b = some o := fun b o nb e => by
      rcases al.only b with z | z | ⟨ob, xs, z⟩
      · exact un.keep b o e z (fun y => by cases (show b ∈ ([] : List Addr) from y)) (by simp)
      · exact absurd z nb
      · have h1 := (ok b _ z).1
        have h2 := (ok' b _ (un.frzs b ob _ z)).1
        rw [e] at h1
        cases h1
        exact h2
    refine And.intro rfl (And.intro ⟨fun b o e => ?_, fun b o e => ?_⟩ (And.intro eos bare))
    · by_cases hb : b = T
      · subst hb
        rw [al.tab] at e
        cases e
        exact .inr (.inl ⟨(C.tab al.tab).isCodeTable, rfl, #[], more, rfl, eT⟩)
      · exact .inl (other b o hb e)
    · by_cases hb : b = T
      · subst hb
        exact ⟨_, eT⟩
      · exact ⟨o, other b o hb e⟩
theorem law_tabled {fa a c T : Addr} {s : Shared} {vs : List Value} {ns : List Int} {mb : Str → Option Value} (R : LawRunT P w K mg fa c T)
    (X : K.In s.heap) (g : s.heap.Ns mainGlobals mg) (b : s.heap.Ns builtinsNs mb) (bb : ∀ x : Str, x ≠ "__name__" → mb x = bootBuiltins x) (lim : s.heap.NoLimit) (gs : s.gens = #[]) (C : PySem.W.CodeHd s.heap c T)
    (bm : ∃ (bm : Addr) (ob : Obj), mg "__builtins__" = some (.ref bm) ∧ bm ≠ builtinsNs ∧ s.heap.get? bm = some ob ∧ ob.cls = .type "module" ∧ ob.dict = some builtinsNs ∧ ob.data = .plain)
    (et : s.heap.get? T = some { cls := .none, data := .fields #[] }) (nt : K.lookup T = none)
    (ea : s.heap.get? a = some { cls := .type "list", data := .seq vs.toArray }) (hi : IntsAre vs ns) (hl : ns.length ≤ 63) :
    codeAny (model P w) callerA (.call (.ref fa) ⟨[.ref a], []⟩) (fun r s' => r = .ok (.ret (.bool true)) ∧ OldK s.heap s'.heap ∧ s'.os = s.os ∧ AllBare s'.gens) s := by
  have rel := vals_ints hi
  have ll := hi.length
  have hl2 : ns.length ≤ sizeLine := Nat.le_trans hl (by decide)
  have naT : a ≠ T := fun z => by
    rw [z, et] at ea
    cases ea
  cases lk : K.lookup a with
  | some o =>
    have e := X a o lk
    rw [ea] at e
    cases e
    let H0 : Hp := fun b => if b = T then some (.tbl #[]) else Option.none
    have hT : H0 T = some (.tbl #[]) := if_pos rfl
    have hN : ∀ b, b ≠ T → H0 b = none := fun b hb => if_neg hb
    refine law_told (H := H0) R ⟨fun b => ?_, fun b z => ?_, fun z => absurd (hN a naT) z, nt, et, hT⟩ X g b bb lim gs C bm ea ?_ hl (fun b u z => ?_)
    · by_cases hb : b = T
      · exact .inr (.inl hb)
      · exact .inl (hN b hb)
    · by_cases hb : b = T
      · exact .inr hb
      · exact absurd (hN b hb) z
    · refine .inr ⟨_, vs.toArray, _, lk, rfl, rfl, rfl, ?_, by simpa using rel⟩
      rw [List.size_toArray, ll]
      exact hl2
    · by_cases hb : b = T
      · subst hb
        rw [hT] at z
        cases z
        exact et
      · rw [hN b hb] at z
        cases z
  | none =>
    let o0 : HO := .frz { cls := .type "list", data := .seq vs.toArray } (.lst (ns.map V.int))
    let H0 : Hp := fun b => if b = a then some o0 else if b = T then some (.tbl #[]) else Option.none
    have hA : H0 a = some o0 := if_pos rfl
    have hT : H0 T = some (.tbl #[]) := (if_neg (Ne.symm naT)).trans (if_pos rfl)
    have hN : ∀ b, b ≠ a → b ≠ T → H0 b = none := fun b h1 h2 => (if_neg h1).trans (if_neg h2)
    refine law_told (H := H0) R ⟨fun b => ?_, fun b z => ?_, fun _ => lk, nt, et, hT⟩ X g b bb lim gs C bm ea (.inl (.inr ⟨_, hA⟩)) hl (fun b u z => ?_)
    · by_cases h1 : b = a
      · subst h1; exact .inr (.inr ⟨_, _, hA⟩)
      · by_cases hb : b = T
        · exact .inr (.inl hb)
        · exact .inl (hN b h1 hb)
    · by_cases h1 : b = a
      · exact .inl h1
      · by_cases hb : b = T
        · exact .inr hb
        · exact absurd (hN b h1 hb) z
    · by_cases h1 : b = a
      · subst h1
        rw [hA] at z
        cases z
        exact ⟨ea, by rw [List.length_map]; exact hl2, vs, _, rel, ea⟩
      · by_cases hb : b = T
        · subst hb
          rw [hT] at z
          cases z
          exact et
        · rw [hN b h1 hb] at z
          cases z
/-- the end of such a law's row -/
theorem walk_tabled {l : PySem.W.OpenLaw} {q : Program} {loose : List Str} {XP : (Str → Option Value) → Heap → Prop} {YP : World → Heap → Prop} {d : DefRec} {K : Params → PySem.W.Frag} {c T : Addr} (hn : l.most = some 63) (hdf : d.params.defaults = [])
    (hY : ∀ (w : World) (h : Heap), YP w h → (K w.params).In h) (ht : ∀ (w : World) (h : Heap), YP w h → h.get? T = some { cls := .none, data := .fields #[] }) (hc : ∀ w : World, PySem.W.codeHdIn (K w.params) c T = true) (nt : ∀ w : World, (K w.params).lookup T = none)
    (R : ∀ (w : World) (mg : Str → Option Value) (fa : Addr) (h : Heap), (K w.params).In h → h.Ns mainGlobals mg → mg d.name = some (.ref fa) → LawRunT l.prog w (K w.params) mg fa c T) :
    PySem.W.WalkO q loose XP YP l.row.toRowW d [] (fun f vs => PySem.call f vs) := by
  refine Att.attach_call hn hdf fun w s₀ s₁ mg mb fa o pm cd doc a vs ns G Y ho hd hcd hmg hobj hints hlen hg => ?_
  have KX := hY w _ Y
  exact law_tabled (R w mg fa _ KX G.T.g hmg) KX G.T.g G.T.b G.T.builtins G.T.nolimit hg (PySem.W.codeHd_of_K KX (hc w)) G.T.bmain (ht w _ Y) (nt w) hobj hints hlen
end
end Ms
namespace Ms
open PySem PySem.Spec PyProof.Rows L2
/-! ### BadSettings(e) and need_settings -/
structure ErrC (K : PySem.W.Frag) (C fE : Addr) : Prop where
  ox : OexC K C
  ini : PySem.W.findIn K (.ref C) "__init__" = some (some (.ref fE))
  ty : PySem.W.typeIn K (.ref fE) = some (.type "function")
  no : PySem.W.findIn K (.ref C) "place" = some none
def spIni (C : Addr) : Sp := fun vs H Q _ => ∃ (a : Addr) (y : V), vs = [.ref a, y] ∧ H a = some (exo a C none) ∧ ∀ dx, H dx = none → dx ≠ a → Q .non (upd (upd H dx (exd dx [("place", y)])) a (exo a C (some dx)))
def needV (d : PyData) : Option V := match d with
  | .tuple ds => if 1 ≤ ds.length ∧ ds.length ≤ 3 then (match dueGo 0 [] 1 ds with | .inl p => some (.int (p : Nat)) | .inr many => if many ≤ 12 then none else some (.str "many")) else some .non
  | _ => some .non
def spNeed (K : PySem.W.Frag) (C : Addr) : Sp := fun vs H Q E => ∃ (m l : Addr) (v : V) (d : PyData) (B b : Nat), vs = [v] ∧ Dq K H m l v d ∧ Gd B 100000 b d ∧ (needV d = none → ∀ H', Same H H' → Q v H') ∧
  ∀ u, needV d = some u → ∀ dx H', H dx = none → Same H H' → H' dx = some (.xd [("place", u)]) → E (.ref C) (some dx) H'
theorem mk_one {C : Addr} {H1 : Hp} {y : V} {Q : XK} (h : ∀ d H', H1 d = none → Same H1 H' → H' d = some (.xd [("place", y)]) → Q (.ref C) (some d) H') :
    [y].length ≤ 1000 ∧ ∀ a, H1 a = none → spIni C (.ref a :: ([y] ++ [])) (upd H1 a (exo a C none))
      (fun v H2 => v = .non ∧ ∃ (d : Addr) (fs : List (Str × V)), H2 a = some (exo a C (some d)) ∧ H2 d = some (exd d fs) ∧ H1 d = none ∧ Q (.ref C) (some d) (upd (del H2 a) d (.xd fs))) (fun _ _ _ => False) := by
  refine ⟨(by show 1 ≤ 1000; decide), fun a ha => ⟨a, y, rfl, upd_same, fun dx h1 h2 => ?_⟩⟩
  have hd : H1 dx = none := by rw [upd_ne h2] at h1; exact h1
  refine ⟨rfl, dx, [("place", y)], upd_same, by rw [upd_ne h2, upd_same], hd, h dx _ hd (fun b o e => ?_) upd_same⟩
  rw [upd_ne (ne_of_none e hd), del_ne (ne_of_none e ha), upd_ne (ne_of_none e ha), upd_ne (ne_of_none e hd), upd_ne (ne_of_none e ha)]
  exact e
section
variable {P : Program} {w : World} {K : PySem.W.Frag} {mg : Str → Option Value} {base : Heap} {fI fN fS fA fG C fE : Addr}
theorem scIn : FnScope ["self", "place"] ["self", "place"] (defScope sIni) := ⟨rfl, rfl, rfl, by decide +kernel, rfl, by decide +kernel, by decide +kernel⟩
theorem ok_ini {fd : FuncData} {qual : Str} (F : Fun K "__init__" qual sIni fE fd) (TE : ErrC K C fE) : FnOk P w K mg base CX0 1 fE fd ["self", "place"] (spIni C) := by
  refine F.ok scIn (fun vs H Q E h => ?_) (fun cdv A outer s H vs Q E hr h => ?_)
  · obtain ⟨a, y, rfl, _⟩ := h
    rfl
  · obtain ⟨a, y, rfl, e, q⟩ := h
    exact ⟨_, pss_one (ps_ost (pv 0) (pv 1)), ⟨_, rfl, _, rfl, a, C, rfl, TE.ox, TE.no, .inl ⟨e, fun dx h1 h2 => q dx h1 h2⟩⟩⟩
abbrev NPd : List Str := ["thing", "at", "setting"]
theorem scPd : FnScope NPd ["thing"] (defScope sNeed) := ⟨rfl, rfl, rfl, by decide +kernel, rfl, by decide +kernel, by decide +kernel⟩
def many (qs : List (Str × Int)) : Int := qs.foldl (fun m q => m * (q.2 + 1)) 1
theorem fold_many : ∀ (qs : List (Str × Int)) (rs : List (List Int)) (m : Int), (∀ q ∈ qs, 1 ≤ q.2 ∧ q.2 ≤ 3) → (rs.length : Int) = m → ((qs.foldl (fun rs q => widen rs (q.2 + 1).toNat) rs).length : Int) = qs.foldl (fun m q => m * (q.2 + 1)) m
  | [], rs, m, _, h => h
  | q :: qs, rs, m, hq, h => by
    refine fold_many qs (widen rs (q.2 + 1).toNat) (m * (q.2 + 1)) (fun x hx => hq x (List.mem_cons_of_mem _ hx)) ?_
    have := hq q (List.mem_cons_self ..)
    rw [widen_len, Int.natCast_mul, h]
    congr 1
    omega
theorem grid_many (qs : List (Str × Int)) (h : ∀ q ∈ qs, 1 ≤ q.2 ∧ q.2 ≤ 3) : ((grid qs).length : Int) = many qs := fold_many qs [[]] 1 h rfl
theorem ok_need {f : Addr} {fd fdI fdN fdS fdA fdG fdE : FuncData} {qual : Str} (F : Fun K "need_settings" "need_settings" sNeed f fd) (T : TxtP mg fI fN fS fA fG) (gC : mg "BadSettings" = some (.ref C)) (TE : ErrC K C fE)
    (FI : Fun K "is_int" "is_int" sPInt fI fdI) (bI : Binds K fdI ["thing"] []) (FN : Fun K "is_name" "is_name" sPName fN fdN) (bN : Binds K fdN ["thing"] []) (FS : Fun K "is_setting" "is_setting" sPSet fS fdS) (bS : Binds K fdS ["thing"] [])
    (FA : Fun K "names_of" "names_of" sPNames fA fdA) (bA : Binds K fdA ["settings"] []) (FG : Fun K "grid_of" "grid_of" sPGrid fG fdG) (bG : Binds K fdG ["settings"] []) (FE : Fun K "__init__" qual sIni fE fdE) (bE : Binds K fdE ["self", "place"] []) :
    FnOk P w K mg base (L2.CX P w) 3 f fd ["thing"] (spNeed K C) := by
  have GS : FnOk P w K mg base CX0 2 fS fdS ["thing"] (spPSet K) := ok_pset FS T FI bI FN bN
  have GA : FnOk P w K mg base CX0 1 fA fdA ["settings"] (spPNames K) := ok_pnames FA
  have GG : FnOk P w K mg base CX0 1 fG fdG ["settings"] (spPGrid K) := ok_pgrid FG T
  have GE : FnOk P w K mg base CX0 1 fE fdE ["self", "place"] (spIni C) := ok_ini FE TE
  refine F.okX scPd (fun vs H Q E h => ?_) (fun cdv A outer s H vs Q E hr h => ?_)
  · obtain ⟨m, l, v, d, B, b, rfl, _⟩ := h
    rfl
  obtain ⟨m, l, v, d, B, b, rfl, hd, gd, q, qe⟩ := h
  obtain ⟨ts, gs⟩ := T.mS
  obtain ⟨tt, gt⟩ := T.mT
  have hr1 : Room 1 _ := hr.mono (by decide)
  refine ⟨_, pss_cons (ps_if (PW.pt (pw_or (pt_not (pt_val (pe_callB call_isi (by rfl) T.isi PyProof.Rows.boot_isinstance (pa_cons (pv 0) (pa_cons (pe_bltn (v := .ty "tuple") (u := .type "tuple") (by rfl) T.tuple (by decide +kernel) rfl) pa_nil)))))
      (pw_or1 (pt_not (pt_chain op_le op_le pe_int (pe_callB call_len (by rfl) T.len PySem.boot_len (pa_cons (pv 0) pa_nil)) (pe_glob (v := .int 3) rfl gs ⟨_, rfl⟩)))))) (pss_one (ps_raise rfl (takes_of rfl rfl rfl rfl) (pmk_oex TE.ox TE.ini TE.ty GE hr bE .nil pass0 (by rfl) gC (pa_cons pe_non pa_nil)))) pss_nil)
    (pss_cons (ps_for (passes_of rfl) rfl (pi_et (by rfl) T.enumerate (pa_cons (pv 0) pa_nil)) (pg_tup rfl (pgs_cons (pg_name (i := 1) scPd.nd rfl (by first | exact Or.inl rfl | exact Or.inr rfl)) (pgs_cons (pg_name (i := 2) scPd.nd rfl (by first | exact Or.inl rfl | exact Or.inr rfl)) pgs_nil)))
      (pss_one (ps_if (PW.pt (pw_or (pt_not (pt_val (pe_call GS hr rfl T.gS FS.kp bS .nil pass0 (pa_cons (pv 2) pa_nil)))) (pw_or1 (pt_cmpR op_in_seq (pe_ix ix_tup (pv 2) pe_int (fun _ _ => rfl)) (pe_call GA hr1 rfl T.gA FA.kp bA .nil pass0 (pa_cons (pe_slice sl_tupA (pv 0) po_none (po_some (pv 1))) pa_nil)) (by rfl)))))
        (pss_one (ps_raise rfl (takes_of rfl rfl rfl rfl) (pmk_oex TE.ox TE.ini TE.ty GE hr bE .nil pass0 (by rfl) gC (pa_cons (pv 1) pa_nil)))) pss_nil)))
    (pss_cons (ps_if (pt_cmpR op_gt (pe_callB call_len_seq (by rfl) T.len PySem.boot_len (pa_cons (pe_call GG hr1 rfl T.gG FG.kp bG .nil pass0 (pa_cons (pv 0) pa_nil)) pa_nil)) (pe_glob (v := .int 12) rfl gt ⟨_, rfl⟩) (nomark _))
        (pss_one (ps_raise rfl (takes_of rfl rfl rfl rfl) (pmk_oex TE.ox TE.ini TE.ty GE hr bE .nil pass0 (by rfl) gC (pa_cons pe_str pa_nil)))) pss_nil)
    (pss_one (ps_ret (pv 0))))), ?_⟩
  refine ⟨_, rfl, v, .ty "tuple", _, _, _, rfl, .ty _, hd.ty, isi_tup K d, _, rfl, ?_⟩
  cases d with
  | tuple ds =>
    cases hd with
    | tup hp hx =>
      rename_i p xs
      refine ifF rfl ?_
      have lx := hx.len
      have none0 : ¬ (1 ≤ ds.length ∧ ds.length ≤ 3) → needV (.tuple ds) = some .non := fun h => by
        show (if 1 ≤ ds.length ∧ ds.length ≤ 3 then _ else some V.non) = some .non
        rw [if_neg h]
      refine ⟨_, rfl, .ref p, xs.length, rfl, .inr ⟨xs, hp, rfl⟩, 1, (xs.length : Int), rfl, rfl, _, rfl, ite_b (fun e1 => ⟨(xs.length : Int), 3, rfl, rfl, _, rfl, ite_b (fun e8 => mk_one (qe _ (none0 ?_))) (fun e8 => ?_)⟩) (fun e1 => ⟨_, rfl, ifT rfl (mk_one (qe _ (none0 ?_)))⟩)⟩
      · have : ¬ ((xs.length : Int) ≤ 3) := by simpa using e8
        omega
      · have l3 : (xs.length : Int) ≤ 3 := by simpa using e8
        have l1 : (1 : Int) ≤ (xs.length : Int) := of_decide_eq_true e1
        have ed : needV (.tuple ds) = (match dueGo 0 [] 1 ds with | .inl p => some (V.int (p : Nat)) | .inr many => if many ≤ 12 then none else some (.str "many")) := by
          show (if 1 ≤ ds.length ∧ ds.length ≤ 3 then _ else some V.non) = _
          rw [if_pos ⟨by omega, by omega⟩]
        refine ⟨_, rfl, p, xs, rfl, hp, ?_⟩
        refine for_it walk_et (fun i σ H1 => ∃ (qs : List (Str × Int)) (v1 v2 : Option V), σ = [some (.ref p), v1, v2] ∧ Same H H1 ∧ PrTs K H1 (xs.take i) qs ∧ (∀ q ∈ qs, 1 ≤ q.2 ∧ q.2 ≤ 3) ∧ dueGo 0 [] 1 ds = dueGo i (qs.map (·.1)) (many qs) (ds.drop i))
          ⟨[], none, none, rfl, Same.refl H, by rw [List.take_zero]; exact .nil, (fun q hq => nomatch hq), rfl⟩ (fun i σ H1 _ ⟨qs, v1, v2, _, s1, _⟩ => Same.seqT s1 hp) ?_ ?_
        · rintro i x σ H1 H2 hi ⟨qs, v1, v2, rfl, s1, pq, bq, dg⟩ ⟨TT, x1, x2, rfl, hT, rfl, e1', e2'⟩
          have ex1 : x1 = .int (i : Nat) := (Option.some.inj e1').symm
          subst ex1
          obtain ⟨e, he, dqe⟩ := hx.get e2'
          have sT : Same H1 (upd H1 TT (.tup [.int (i : Nat), x2])) := Same.upd hT
          have sA : Same H (upd H1 TT (.tup [.int (i : Nat), x2])) := s1.trans sT
          have dqA := Dq.same sA e x2 dqe
          have hid : i < ds.length := by omega
          have edr : ds.drop i = e :: ds.drop (i + 1) := by rw [List.drop_eq_getElem_cons hid]; rw [(List.getElem?_eq_some_iff.mp he).2]
          have refuse : ∀ {H3 : Hp}, Same H H3 → needV (.tuple ds) = some (.int (i : Nat)) → ∀ d H', H3 d = none → Same H3 H' → H' d = some (.xd [("place", V.int (i : Nat))]) → E (.ref C) (some d) H' := fun {H3} s3 hn d H' h1 h2 h3 =>
            qe _ hn d H' (Same.free s3 h1) (s3.trans h2) h3
          obtain ⟨cc, eb, g⟩ := Gd.untup gd
          have ge := g.at he
          have we : e.weight ≤ 100000 := by
            have := wA_at he
            have := g.wt
            omega
          refine ⟨TT, _, rfl, .inl (.inl upd_same), rfl, _, _, rfl, _, _, rfl, rfl, ?_⟩
          refine ⟨_, rfl, m, l, x2, e, _, _, rfl, dqA, ge.mono (Nat.le_refl _) we (Nat.le_refl _), fun H3 s3 => ⟨_, rfl, ?_⟩⟩
          have s03 := sA.trans s3
          cases eo : oneD e with
          | none =>
            refine ifT rfl ⟨_, rfl, mk_one (refuse s03 ?_)⟩
            rw [ed, dg, edr]
            simp only [dueGo, eo]
          | some zc =>
            obtain ⟨z, c⟩ := zc
            have le := pq.len
            obtain ⟨a, rfl, hq, cb⟩ : ∃ a, x2 = .ref a ∧ SqT K H a [.str z, .int c] ∧ 1 ≤ c ∧ c ≤ 3 := by
              have key : e = .tuple [.str z, .int c] ∧ 1 ≤ c ∧ c ≤ 3 := by
                have eo' := eo
                unfold oneD at eo'
                split at eo'
                · split at eo'
                  · rename_i hh
                    cases eo'
                    have hw := (Bool.and_eq_true _ _ ▸ hh : _ ∧ _).2
                    exact ⟨rfl, of_decide_eq_true (Bool.and_eq_true _ _ ▸ hw : _ ∧ _).1, of_decide_eq_true (Bool.and_eq_true _ _ ▸ hw : _ ∧ _).2⟩
                  · cases eo'
                · cases eo'
              obtain ⟨rfl, kb⟩ := key
              cases dqe with
              | tup h0 hy0 =>
                cases hy0 with
                | cons g0 hy1 =>
                  cases hy1 with
                  | cons g1 hy2 =>
                    cases g0
                    cases g1
                    cases hy2
                    exact ⟨_, rfl, h0, kb⟩
            refine ifF rfl ?_
            refine ⟨_, rfl, a, _, 0, .str z, rfl, rfl, Same.seqT s03 hq, rfl, ?_⟩
            refine ⟨_, rfl, _, rfl, _, rfl, slA_any (Same.seqT s03 hp) fun p4 H4 s4 c4 => ?_⟩
            rw [cut_to (by omega)] at c4
            refine ⟨p4, xs.take i, qs, rfl, c4, (pq.same (sT.trans (s3.trans s4))), (by rw [← le, List.length_take]; omega), fun D hD H5 s5 g5 => ?_⟩
            have sF := (s03.trans s4).trans s5
            refine ⟨D, _, rfl, .inl (SqL.of g5), rfl, (by simp [flatV]), _, rfl, ite_b (fun e => ⟨_, rfl, mk_one (refuse sF ?_)⟩) (fun e => ?_)⟩
            · have e' : inV (.str z) ((qs.map (·.1)).map V.str) = true := e
              rw [inV_str] at e'
              have hz := of_decide_eq_true e'
              rw [ed, dg, edr]
              simp only [dueGo, eo, if_pos hz]
            · have e' : inV (.str z) ((qs.map (·.1)).map V.str) = false := e
              rw [inV_str] at e'
              have nz := of_decide_eq_false e'
              refine ⟨qs ++ [(z, c)], _, _, rfl, sF, ?_, fun q hq' => ?_, ?_⟩
              · have e3 : xs[i]? = some (V.ref a) := e2'
                rw [List.take_succ, e3]
                exact (pq.same (sT.trans ((s3.trans s4).trans s5))).snoc ⟨a, rfl, Same.seqT sF hq⟩
              · rcases List.mem_append.mp hq' with hq' | hq'
                · exact bq q hq'
                · rw [List.mem_singleton.mp hq']; exact cb
              · rw [dg, edr]
                simp only [dueGo, eo, if_neg nz]
                unfold many
                rw [List.map_append, List.foldl_append]
                rfl
        · rintro σ H1 ⟨qs, v1, v2, rfl, s1, pq, bq, dg⟩
          rw [List.take_of_length_le (by omega)] at pq
          rw [List.drop_of_length_le (by omega)] at dg
          have le := pq.len
          have ed2 : needV (.tuple ds) = if many qs ≤ 12 then none else some (.str "many") := by
            rw [ed, dg]; rfl
          refine ⟨_, rfl, p, xs, qs, rfl, Same.seqT s1 hp, pq, by omega, bq, fun D as H2 hD s2 gD rw2 _ => ?_⟩
          have lg := rw2.length
          refine ⟨D, _, rfl, .inl (SqL.of gD), _, _, rfl, rfl, _, rfl, ite_b (fun e => mk_one fun d H' h1 h2 h3 => ?_) (fun e => ?_)⟩
          · have hm : ¬ many qs ≤ 12 := by
              have := of_decide_eq_true e
              rw [← grid_many qs bq]
              rw [List.length_map, lg] at this
              omega
            exact qe _ (by rw [ed2, if_neg hm]) d H' (Same.free (s1.trans s2) h1) ((s1.trans s2).trans h2) h3
          · have hm : many qs ≤ 12 := by
              have := of_decide_eq_false e
              rw [← grid_many qs bq]
              rw [List.length_map, lg] at this
              omega
            exact ⟨_, rfl, q (by rw [ed2, if_pos hm]) _ (s1.trans s2)⟩
      · have : ¬ ((1 : Int) ≤ (xs.length : Int)) := of_decide_eq_false e1
        omega
  | _ => exact ifT rfl (ifT rfl (mk_one (qe _ rfl)))
end
end Ms
namespace Ms
open PySem PySem.Spec PyProof.Rows L2
/-! ### try: several clauses, each with a name, one of which catches -/
abbrev Clause : Type := Value × (Addr → Value → Option Addr → TS)
/-- the ends of a suite: behind it the clause's name is gone -/
def unnamed (i : Nat) (D : Ends) : Ends := { nx := fun σ' H' => D.nx (σ'.set i none) H', rt := D.rt, bk := fun σ' H' => D.bk (σ'.set i none) H', ct := fun σ' H' => D.ct (σ'.set i none) H' }
def wishes (K : PySem.W.Frag) (i : Nat) (D : Ends) : List Clause → WX
  | [] => fun _ _ _ _ => False
  | p :: r => fun cls d σ H => ∃ hit, PySem.W.exmOne K cls p.1 = some hit ∧ (hit = true → ∀ a, H a = none → p.2 a cls d (unnamed i D) (σ.set i (some (.ref a))) H) ∧ (hit = false → wishes K i D r cls d σ H)
inductive Clauses (X : Cx) (n : Str) : List ExceptHandler → List Clause → Prop
  | last : Clauses X n [] []
  | more {x : Str} {c : Value} {ts : Addr → Value → Option Addr → TS} {st : Stmt} {rest : List Stmt} {q q' : Pos} {hds : List ExceptHandler} {l : List Clause} (hc : Names X x c)
      (suite : ∀ (a : Addr) (oe : Obj) (cls : Value) (d : Option Addr) (pn : List (Addr × Obj)), Zc cls d oe → (∃ vs, oe.data = .fields vs) → PSs (X.suite a ((a, oe) :: pn)) (st :: rest) (ts a cls d)) (r : Clauses X n hds l) :
      Clauses X n (.ExceptHandler (some (.Name x q)) (some n) (st :: rest) q' :: hds) ((c, ts) :: l)
section
variable {X : Cx} {n : Str} {i : Nat} {body : List Stmt} {h₀ : ExceptHandler} {hds : List ExceptHandler} {l : List Clause} {pos : Pos} {tb : WX → TS}
theorem ps_try_list (hs : X.stack = X.env :: X.outer) (hf : X.env.frame = some X.env.locals) (hN : X.N.Nodup) (hi : X.N[i]? = some n) (hln : X.env.kindOf n = some .local)
    (hb : ∀ (W : WX) (pn : List (Addr × Obj)) (xe : Value → Shared → Prop), Takes (X.tr pn xe) W → PassesOwn (model X.prog X.w) X.A X.env xe → PSs (X.tr pn xe) body (tb W))
    (cl : Clauses X n (h₀ :: hds) l) : PS X (.Try body (h₀ :: hds) [] [] pos) (fun D σ H => tb (wishes X.K i D l) D σ H) := by
  constructor
  intro pins s σ H D I reads
  have good := I.ok
  have frames : X.A.frames = some (X.env :: X.outer) := good.frames.trans (by rw [hs])
  have caught : Takes (X.tr (X.pn ++ pins) (fun e s₁ => wpAny (model X.prog X.w) X.A (noteFrame e X.env) (fun _ s₂ => wpAny (model X.prog X.w) X.A (setFlight e none) (fun _ s₃ =>
      wpAny (model X.prog X.w) X.A (handleBy e X.env (h₀ :: hds)) (SP X pins D) X.xe s₃) X.xe s₂) X.xe s₁)) (wishes X.K i D l) := by
    intro u s' air
    obtain ⟨a, B, sI, pins', σ', H', cls, d, rfl, It, nb, up, sky, free, os, bare, wish⟩ := air
    have I' : Inv X pins σ' H' sI := It.ofTry good
    show wpAny (model X.prog X.w) X.A (noteFrame (.ref a) X.env) _ _ _
    refine Sky.land Zc.steady frames hf (by rw [← hs]; exact sky) fun g fl upg => ?_
    have Ig : Inv X pins σ' H' { s' with heap := g } := I'.landed nb fl.1 (up.trans upg) os bare
    obtain ⟨oe, vs, at_, zc, fields⟩ := fl.there
    have apart : a ∉ frs (X.env :: X.outer) := fun hm => by
      obtain ⟨_, o', e', nd⟩ := fl.2.2.1.mem hm
      cases at_.symm.trans e'
      exact nd _ fields
    have noLocals : a ≠ X.env.locals := fun z => apart (List.mem_filterMap.mpr ⟨X.env, List.mem_cons_self, by rw [hf, z]⟩)
    have noFrame : a ∉ X.fs := fun hm => by
      obtain ⟨env, he, q⟩ := List.mem_filterMap.mp hm
      exact apart (List.mem_filterMap.mpr ⟨env, List.mem_cons_of_mem _ he, q⟩)
    have Sg := Ig.suite at_ fields free noLocals noFrame
    have looks : PySem.W.Looks (model X.prog X.w) g (typeOf (.ref a)) cls := fun A Q E t k q => wpAny_typeOf_ref (k _ _ at_) (by rw [zc.1]; exact q)
    have all : ∀ {hds' : List ExceptHandler} {l' : List Clause}, Clauses X n hds' l' → wishes X.K i D l' cls d σ' H' → wpAny (model X.prog X.w) X.A (handleBy (.ref a) X.env hds') (SP X pins D) X.xe { s' with heap := g } := by
      intro hds' l' cs
      induction cs with
      | last => exact fun w => w.elim
      | @more x c ts st rest q q' hds2 l2 hc suite r ih =>
        rintro ⟨hit, eq, yes, no⟩
        refine wpAny_handleBy_cons (codeAny_handlers_test ?_) (fun z => nomatch z)
        have isIt := PySem.W.exm_one (M := model X.prog X.w) Ig.kIn looks eq
        have named : ∀ {Q : Value → Shared → Prop} {E : Value → Shared → Prop}, Q c { s' with heap := g } → wpAny (model X.prog X.w) (X.A.mark (some (.ref a))) (eval (.Name x q) X.env) Q E { s' with heap := g } := fun {Q E} k => by
          obtain ⟨h1, h2, h3⟩ := hc
          cases h3 with
          | inl h3 => exact ld_glob (X := X.suite a ((a, oe) :: (X.pn ++ pins))) Sg h1 h3 k h2
          | inr h3 => exact ld_blt (X := X.suite a ((a, oe) :: (X.pn ++ pins))) Sg h1 h3.1 h3.2.1 k h3.2.2 h2
        refine named (isIt.here ?_)
        cases hit with
        | false =>
          show wpAny _ X.A (handleBy (.ref a) X.env hds2) _ _ _
          exact ih (no rfl)
        | true =>
          refine codeAny_handlers_suite_as (HandSPX.lands_againZ fl fun g2 fl2 up2 => ?_)
          have I2 : Inv X pins σ' H' { s' with heap := g2 } := I'.landed nb fl2.1 ((up.trans upg).trans up2) os bare
          obtain ⟨oe2, vs2, at2, zc2, fields2⟩ := fl2.there
          have S2 := I2.suite at2 fields2 free noLocals noFrame
          refine store_ok (X := X.suite a ((a, oe2) :: (X.pn ++ pins))) (v := .ref a) S2 hN hi (.inl hln) rfl (fun s5 S5 => ?_) (.inr hln)
          refine wpAny_mono ((suite a oe2 cls d (X.pn ++ pins) zc2 ⟨_, fields2⟩).run [] s5 _ H' _ S5 (yes rfl a free)) (fun f s6 hsp => ?_) (fun _ _ z => z.elim)
          match f, hsp with
          | .ret u, ⟨v, _, _, S6, rv, k⟩ => exact gone_ok (S6.unsuite good) hN hi hln fun s7 I7 => ⟨v, _, _, I7, rv, k⟩
          | .next, ⟨_, _, S6, k⟩ => exact gone_ok (S6.unsuite good) hN hi hln fun s7 I7 => ⟨_, _, I7, k⟩
          | .brk, ⟨_, _, S6, k⟩ => exact gone_ok (S6.unsuite good) hN hi hln fun s7 I7 => ⟨_, _, I7, k⟩
          | .cont, ⟨_, _, S6, k⟩ => exact gone_ok (S6.unsuite good) hN hi hln fun s7 I7 => ⟨_, _, I7, k⟩
    exact all cl wish
  refine wpAny_Try_except (wpAny_mono ((hb _ _ _ caught PassesOwn.looking).run [] s σ H D (I.toTry _) reads) (fun f s1 hsp => ?_) fun _ _ z => z)
  match f, hsp with
  | .ret u, ⟨v, _, _, J, rv, k⟩ => exact ⟨v, _, _, J.ofTry good, rv, k⟩
  | .next, ⟨_, _, J, k⟩ => exact wpAny_execs_nil ⟨_, _, J.ofTry good, k⟩
  | .brk, ⟨_, _, J, k⟩ => exact ⟨_, _, J.ofTry good, k⟩
  | .cont, ⟨_, _, J, k⟩ => exact ⟨_, _, J.ofTry good, k⟩
end
end Ms
namespace Ms
open PySem PySem.Spec PyProof.Rows L2
/-! ### == of data of any kind and a text -/
section
open PySem.SeqAt AutoSeq1 MeetsSeq
theorem dict_no_str (l : Addr) (es : Array DictEntry) (ep : Nat) (dd : Option Addr) (sl : Array (Option Value)) (b : Str) (u : Tok) :
    Meets (Builtin.«dict.__eq__» ⟨[.ref l, .str b u], []⟩) (fun _ R s => s.heap.get? l = some { cls := .type "dict", dict := dd, data := .dict es ep, slots := sl } ∧ R (.ok (.ret .notImplemented)) s) :=
  .of_wp fun prog w A R s h => by obtain ⟨hp, g, d, tk, os⟩ := s; obtain ⟨hl, h⟩ := h; have f1 := F.sub_str_dict; wp_walk using wpAny_loadPart' hl; exact ⟨_, rfl, h⟩
theorem str_no_dict (b : Str) (u : Tok) (l : Addr) (c : Value) (es : Array DictEntry) (ep : Nat) (dd : Option Addr) (sl : Array (Option Value)) :
    Meets (Builtin.«str.__eq__» ⟨[.str b u, .ref l], []⟩) (fun _ R s => s.heap.get? l = some { cls := c, dict := dd, data := .dict es ep, slots := sl } ∧ R (.ok (.ret .notImplemented)) s) :=
  .of_wp fun prog w A R s h => by obtain ⟨hp, g, d, tk, os⟩ := s; obtain ⟨hl, h⟩ := h; wp_walk using wpAny_loadPart' hl, wpAny_load hl; exact ⟨_, rfl, h⟩
variable {A : Around} {s : Shared}
theorem rc_dict_str {l : Addr} {o : Obj} {es : Array DictEntry} {ep : Nat} (b : Str) (u : Tok) (ho : s.heap.get? l = some o) (hc : o.cls = .type "dict") (hd : o.data = .dict es ep) (hu : A.units < cLine) : RcAt A s (.ref l) (.str b u) false := fun prog w E Q h => by
  obtain ⟨cls, dd, data, sl⟩ := o
  simp only at hc hd
  subst hc hd
  exact rc_eq_decline_or (k := false) ⟨_, ho, rfl⟩ rfl (by decide) F.sub_str_dict F.slot_dict_eq F.slot_str_eq_refl
    (fun _ hq => call_meets F.slot_dict_eq ⟨_, ho, rfl⟩ F.entry_dict_eq (F.args_dict_eq_2 _ _) (dict_no_str l es ep dd sl b u) ⟨ho, hq⟩)
    (fun _ hq => call_meets F.slot_str_eq_refl rfl F.entry_str_eq (F.args_str_eq_2 _ _) (str_no_dict b u l _ es ep dd sl) ⟨ho, hq⟩)
    (fun _ hq => wpAny_of_eq (rfl : isSame (.ref l) (.str b u) = pure false) hq) (.inr hu) h
theorem rc_str_dict {l : Addr} {o : Obj} {es : Array DictEntry} {ep : Nat} (b : Str) (u : Tok) (ho : s.heap.get? l = some o) (hc : o.cls = .type "dict") (hd : o.data = .dict es ep) (hu : A.units < cLine) : RcAt A s (.str b u) (.ref l) false := fun prog w E Q h => by
  obtain ⟨cls, dd, data, sl⟩ := o
  simp only at hc hd
  subst hc hd
  exact rc_eq_decline_or (k := false) rfl ⟨_, ho, rfl⟩ (by decide) F.sub_dict_str F.slot_str_eq F.slot_dict_eq_refl
    (fun _ hq => call_meets F.slot_str_eq rfl F.entry_str_eq (F.args_str_eq_2 _ _) (str_no_dict b u l _ es ep dd sl) ⟨ho, hq⟩)
    (fun _ hq => call_meets F.slot_dict_eq_refl ⟨_, ho, rfl⟩ F.entry_dict_eq (F.args_dict_eq_2 _ _) (dict_no_str l es ep dd sl b u) ⟨ho, hq⟩)
    (fun _ hq => wpAny_of_eq (rfl : isSame (.str b u) (.ref l) = pure false) hq) (.inr hu) h
end
/-- whether data is this text -/
def isTxt (d : PyData) (w : Str) : Bool := match d with | .str z => z == w | _ => false
section
open PySem.SeqAt
variable {X : Cx} {pins : List (Addr × Obj)} {σ : L2.St} {H : Hp} {s : Shared} {m l : Addr}
theorem Dq.rcTxt (I : Inv X pins σ H s) {A : Around} (hu : A.units < cLine) {v : V} {d : PyData} {u : Value} (h : Dq X.K H m l v d) (r : RelV v u) (w : Str) (t : Tok) : RcAt A s u (.str w t) (isTxt d w) ∧ RcAt A s (.str w t) u (isTxt d w) := by
  cases h with
  | non => cases r; exact ⟨RcAt.none_str w t, RcAt.str_none w t⟩
  | bl b => cases r; exact ⟨RcAt.bool_str b w t, RcAt.str_bool w t b⟩
  | int i => obtain ⟨t', rfl⟩ := r; exact ⟨RcAt.int_str i t' w t, RcAt.str_int w t i t'⟩
  | str z =>
    obtain ⟨t', rfl⟩ := r
    have e : (w == z) = (z == w) := by rw [Bool.eq_iff_iff, beq_iff_eq, beq_iff_eq]; exact eq_comm
    exact ⟨RcAt.str_str z t' w t, by show RcAt A s (.str w t) (.str z t') (z == w); rw [← e]; exact RcAt.str_str w t z t'⟩
  | lst e n1 n2 g =>
    cases r
    obtain ⟨its, rv, p, _⟩ := I.list (SqL.of e)
    exact ⟨RcAt.list_str w t p.isList hu, RcAt.str_list w t p.isList hu⟩
  | tup e g =>
    cases r
    obtain ⟨its, rv, p, _⟩ := I.tuple e
    exact ⟨RcAt.tuple_str w t p hu, RcAt.str_tuple w t p hu⟩
  | dct e n1 n2 =>
    cases r
    obtain ⟨z, hd, vs, rel, dd⟩ := dk_of I.hok e
    obtain ⟨o, es, ep, ho, hc, hdat, hlay⟩ := id dd
    exact ⟨rc_dict_str w t ho hc.1 hdat hu, rc_str_dict w t ho hc.1 hdat hu⟩
theorem Dq.eqTxt (I : Inv X pins σ H s) {A : Around} (hu : A.units < cLine) {v : V} {d : PyData} {u : Value} (h : Dq X.K H m l v d) (r : RelV v u) (w : Str) (t : Tok) : EqAt A s u (.str w t) (isTxt d w) := by
  cases h with
  | non => cases r; exact EqAt.none_str w t
  | bl b => cases r; exact EqAt.bool_str b w t
  | int i => obtain ⟨t', rfl⟩ := r; exact EqAt.int_str i t' w t
  | str z => obtain ⟨t', rfl⟩ := r; exact EqAt.str_str z t' w t
  | lst e n1 n2 g =>
    cases r
    obtain ⟨its, rv, p, _⟩ := I.list (SqL.of e)
    exact EqAt.list_str w t p.isList hu
  | tup e g =>
    cases r
    obtain ⟨its, rv, p, _⟩ := I.tuple e
    exact EqAt.tuple_str w t p hu
  | dct e n1 n2 =>
    cases r
    obtain ⟨z, hd, vs, rel, dd⟩ := dk_of I.hok e
    obtain ⟨o, es, ep, ho, hc, hdat, hlay⟩ := id dd
    intro prog w' E Q' hq
    unfold eqBool
    refine wpAny_holding ?_
    refine wpAny_ite_split (fun hab => absurd (eq_of_beq hab) nofun) (fun _ => ?_)
    exact wpAny_bind (rc_dict_str w t ho hc.1 hdat hu prog w' E _ (wpAny_truthy_bool hq))
end
section
variable {X : Cx}
/-- data == a text -/
def rEqT (K : PySem.W.Frag) : R2 := fun x y H Q => ∃ d m l w, Dq K H m l x d ∧ y = .str w ∧ Q (.bl (isTxt d w)) H
/-- a text == data -/
def rTEq (K : PySem.W.Frag) : R2 := fun x y H Q => ∃ d m l w, x = .str w ∧ Dq K H m l y d ∧ Q (.bl (isTxt d w)) H
theorem op_eqT (hu : X.A.units + 64 < cLine) : OpR X (compareOp .Eq) (rEqT X.K) := by
  intro pins s σ H x y v u Q I rx ry h
  obtain ⟨d, m, l, w, hd, rfl, q⟩ := h
  obtain ⟨t, rfl⟩ := ry
  exact (hd.rcTxt I (A := X.A) (by omega) rx w t).1 X.prog X.w _ _ ⟨.bl _, H, I, rfl, q⟩
theorem op_Teq (hu : X.A.units + 64 < cLine) : OpR X (compareOp .Eq) (rTEq X.K) := by
  intro pins s σ H x y v u Q I rx ry h
  obtain ⟨d, m, l, w, rfl, hd, q⟩ := h
  obtain ⟨t, rfl⟩ := rx
  exact (hd.rcTxt I (A := X.A) (by omega) ry w t).2 X.prog X.w _ _ ⟨.bl _, H, I, rfl, q⟩
/-- a tuple of data == a tuple of one text -/
def isEnd (d : PyData) (w : Str) : Bool := match d with | .tuple [x] => isTxt x w | _ => false
def rEqE (K : PySem.W.Frag) : R2 := fun x y H Q => ∃ a b m l xs ds w, x = .ref a ∧ y = .ref b ∧ SqT K H a xs ∧ DqAll K H m l xs ds ∧ SqT K H b [.str w] ∧ Q (.bl (isEnd (.tuple ds) w)) H
theorem op_eqE (hu : X.A.units + 64 < cLine) : OpR X (compareOp .Eq) (rEqE X.K) := by
  intro pins s σ H x y v u Q I rx ry h
  obtain ⟨a, b, m, l, xs, ds, w, rfl, rfl, ha, hx, hb, q⟩ := h
  cases rx
  cases ry
  obtain ⟨its, r1, p1, _⟩ := I.tuple ha
  obtain ⟨its2, r2, p2, _⟩ := I.tuple hb
  obtain ⟨t, e2⟩ : ∃ t, its2 = [Value.str w t] := by
    cases r2 with
    | cons r r' =>
      cases r'
      obtain ⟨t, rfl⟩ := r
      exact ⟨t, rfl⟩
  subst e2
  have hl := r1.length
  have ln := hx.len
  cases xs with
  | nil =>
    cases r1
    have ed : ds = [] := by cases ds with | nil => rfl | cons _ _ => simp at ln
    subst ed
    exact PySem.SeqAt.eq_tupleAt (e := fun _ => true) p1 p2 (by omega) (fun j h1 _ => by simp at h1) ⟨.bl _, H, I, rfl, q⟩
  | cons x0 xr =>
    cases r1 with
    | @cons _ u0 _ ur ra rr =>
    cases hx with
    | @cons _ _ d0 dr g0 gr =>
    have at0 : PySem.SeqAt.EqAt X.A.in1 s u0 (.str w t) (isTxt d0 w) := g0.eqTxt I (A := X.A.in1) (by show X.A.units + 1 < cLine; omega) ra w t
    refine PySem.SeqAt.eq_tupleAt (e := fun _ => isTxt d0 w) p1 p2 (by omega) (fun j h1 h2 => ?_) ?_
    · have ej : j = 0 := by simp at h2; omega
      subst ej
      simpa using at0
    · have ev : ((List.range (min (u0 :: ur).toArray.size [Value.str w t].toArray.size)).all (fun _ => isTxt d0 w) && (u0 :: ur).toArray.size == [Value.str w t].toArray.size) = isEnd (.tuple (d0 :: dr)) w := by
        have l2 : ur.length = dr.length := by
          have := rr.length
          have := gr.len
          omega
        have e1 : (u0 :: ur).toArray.size = ur.length + 1 := by simp
        have e2 : [Value.str w t].toArray.size = 1 := by simp
        have e3 : min (ur.length + 1) 1 = 1 := by omega
        rw [e1, e2, e3, l2]
        cases dr with
        | nil => simp [isEnd, List.range, List.range.loop]
        | cons d1 d2 => simp [isEnd]
      rw [ev]
      exact ⟨.bl _, H, I, rfl, q⟩
end
end Ms
namespace Ms
open PySem PySem.Spec PyProof.Rows L2
/-! ### tuple * n, n from 1 on -/
section
open AutoSeq1 MeetsSeq
theorem tuple_mul1 (l : Addr) (items : Array Value) (n : Nat) (dd : Option Addr) (sl : Array (Option Value)) (u : Tok) :
    Meets (Builtin.«tuple.__mul__» ⟨[.ref l, .int 1 u], []⟩) (fun _ R s => s.heap.get? l = some { cls := .type "tuple", dict := dd, data := .seq items n, slots := sl } ∧ R (.ok (.ret (Value.ref l))) s) :=
  .of_wp fun prog w A R s h => by
    obtain ⟨hp, g, d, tk, os⟩ := s
    obtain ⟨hl, h⟩ := h
    have f1 := AutoSeq1.idx_int
    have c1 : (items.isEmpty || ((1 : Int) == 1)) = true := by simp
    wp_walk using wpAny_loadPart' hl
    repeat (first
      | (refine wpAny_ite_true (decide_eq_true c1) ?_; wp_walk using wpAny_loadPart' hl)
      | (refine wpAny_ite_false (by decide) ?_; wp_walk using wpAny_loadPart' hl))
    exact ⟨_, rfl, h⟩
end
def rRep1 (K : PySem.W.Frag) : R2 := fun x y H Q => ∃ l k xs, x = .ref l ∧ y = .int k ∧ SqT K H l xs ∧ xs ≠ [] ∧ 1 ≤ k ∧ k ≤ 1000 ∧ xs.length ≤ 1000 ∧ (k = 1 → Q (.ref l) H) ∧ (2 ≤ k → ∀ p, H p = none → Q (.ref p) (upd H p (.tup (List.replicate k.toNat xs).flatten)))
section
variable {X : Cx}
theorem op_rep1 : OpR X (binaryOp .Mult) (rRep1 X.K) := by
  intro pins s σ H x y v u Q I rx ry h
  obtain ⟨l, k, xs, rfl, rfl, hT, hne, h1, h2, hz, q1, q2⟩ := h
  by_cases hk : 2 ≤ k
  · exact op_repT pins s σ H _ _ v u Q I rx ry ⟨l, k, xs, rfl, rfl, hT, hne, hk, h2, hz, q2 hk⟩
  · obtain rfl : k = 1 := by omega
    cases rx
    obtain ⟨t, rfl⟩ := ry
    obtain ⟨its, r, ⟨⟨cls, dd, data, sl⟩, ho, hc, n, hd⟩, hs⟩ := I.tuple hT
    simp only at hc hd
    subst hc hd
    exact wpAny_binaryOp_repeat_ref (T := "tuple") (U := "int") (by decide) ⟨_, ho, rfl⟩ (fun s' => typeIs_int s' 1 t) noFill_tuple_mul F.fills_int_mul F.slot_int_rmul repeat_tuple F.slot_int_index.lookup
      (call_meets F.slot_int_rmul (typeIs_int s 1 t) F.entry_int_rmul (F.args_int_rmul_2 _ _) (int_rmul_tuple 1 t l its.toArray n dd sl)
        ⟨ho, rfl, ⟨_, ho, rfl⟩, call_meets F.slot_tuple_mul ⟨_, ho, rfl⟩ F.entry_tuple_mul (F.args_tuple_mul_2 _ _) (tuple_mul1 l its.toArray n dd sl t) ⟨ho, ⟨.ref l, H, I, rfl, q1 rfl⟩⟩⟩)
end
end Ms
namespace Ms
open PySem PySem.Spec PyProof.Rows L2
/-! ### the package's requests: is_number, is_ask, is_place, is_mode -/
structure TxtR (mg : Str → Option Value) (fI fN fS fA fG fNu fAs fPl fMo fNP fNM fNd aE aM : Addr) : Prop extends TxtP mg fI fN fS fA fG where
  gNu : mg "is_number" = some (.ref fNu)
  gAs : mg "is_ask" = some (.ref fAs)
  gPl : mg "is_place" = some (.ref fPl)
  gMo : mg "is_mode" = some (.ref fMo)
  gNP : mg "need_places" = some (.ref fNP)
  gNM : mg "need_modes" = some (.ref fNM)
  gNd : mg "need_settings" = some (.ref fNd)
  gE : mg "END" = some (.ref aE)
  gM : mg "MODES" = some (.ref aM)
  mP : ∃ t, mg "MOST_PLACES" = some (.int 16 t)
def nextsD (n k : Int) (d : PyData) : Bool := match d with
  | .tuple es => decide ((es.length : Int) = k + 1) && es.all fun e => isWhole e 0 (n - 1)
  | _ => false
def askD (n : Int) (d1 d2 : PyData) : List (Str × Int) → Bool
  | [] => false
  | q :: qs => if isTxt d1 q.1 = true then nextsD n q.2 d2 else askD n d1 d2 qs
def placeD (qs : List (Str × Int)) (n : Int) (d : PyData) : Bool := match d with
  | .tuple ds => if ds.length = 3 ∧ isTxt (ds.getD 0 .none) "do" = true then isName (ds.getD 1 .none) && isWhole (ds.getD 2 .none) 0 (n - 1)
      else if ds.length = 3 ∧ isTxt (ds.getD 0 .none) "ask" = true then askD n (ds.getD 1 .none) (ds.getD 2 .none) qs
      else isEnd (.tuple ds) "end"
  | _ => false
def isMode (d : PyData) : Bool := match d with | .str z => decide (z ∈ (["live", "met", "begin"] : List Str)) | _ => false
section
variable {P : Program} {w : World} {K : PySem.W.Frag} {mg : Str → Option Value} {base : Heap} {fI fN fS fA fG fNu fAs fPl fMo fNP fNM fNd aE aM : Addr}
theorem scNu : FnScope ["many", "thing"] ["many", "thing"] (defScope sPNum) := ⟨rfl, rfl, rfl, by decide +kernel, rfl, by decide +kernel, by decide +kernel⟩
def spNum (K : PySem.W.Frag) : Sp := fun vs H Q _ => ∃ (m l : Addr) (v : V) (d : PyData) (n : Int), vs = [.int n, v] ∧ Dq K H m l v d ∧ Q (.bl (isWhole d 0 (n - 1))) H
theorem ok_num {f : Addr} {fd fdI : FuncData} (F : Fun K "is_number" "is_number" sPNum f fd) (T : TxtP mg fI fN fS fA fG) (FI : Fun K "is_int" "is_int" sPInt fI fdI) (bI : Binds K fdI ["thing"] []) : FnOk P w K mg base CX0 2 f fd ["many", "thing"] (spNum K) := by
  have GI : FnOk P w K mg base CX0 1 fI fdI ["thing"] (spPInt K) := ok_pint FI T
  refine F.ok scNu (fun vs H Q E h => ?_) (fun cdv A outer s H vs Q E hr h => ?_)
  · obtain ⟨m, l, v, d, n, rfl, _⟩ := h
    rfl
  · obtain ⟨m, l, v, d, n, rfl, hd, q⟩ := h
    refine ⟨_, pss_one (ps_ret (pe_and (pe_call GI hr rfl T.gI FI.kp bI .nil pass0 (pa_cons (pv 1) pa_nil)) (pe_one (pe_chain op_le op_lt pe_int (pv 1) (pv 0))))), ?_⟩
    refine ⟨_, rfl, m, l, v, d, rfl, hd, _, rfl, ite_b (fun e => ?_) (fun e => ?_)⟩
    · obtain ⟨j, rfl⟩ : ∃ j, d = .int j := by
        cases d <;> first | exact ⟨_, rfl⟩ | cases e
      cases hd
      refine ⟨_, rfl, 0, j, rfl, rfl, _, rfl, ite_b (fun e1 => ⟨_, rfl, j, n, rfl, rfl, ?_⟩) (fun e1 => ?_)⟩
      · have z : isWhole (.int j) 0 (n - 1) = decide (j < n) := by
          show (decide (0 ≤ j) && decide (j ≤ n - 1)) = _
          rw [e1, Bool.true_and, Bool.eq_iff_iff, decide_eq_true_eq, decide_eq_true_eq]; omega
        rw [z] at q; exact q
      · have z : isWhole (.int j) 0 (n - 1) = false := by show (decide (0 ≤ j) && decide (j ≤ n - 1)) = _; rw [e1]; rfl
        rw [z] at q; exact q
    · rw [isWhole_int d 0 (n - 1) e] at q
      exact q
/-! is_ask -/
abbrev NAs : List Str := ["settings", "many", "setting", "nexts", "name", "most", "right", "number"]
theorem scAs : FnScope NAs ["settings", "many", "setting", "nexts"] (defScope sPAsk) := ⟨rfl, rfl, rfl, by decide +kernel, rfl, by decide +kernel, by decide +kernel⟩
def spAsk (K : PySem.W.Frag) : Sp := fun vs H Q _ => ∃ (m l a : Addr) (xs : List V) (qs : List (Str × Int)) (n : Int) (v1 v2 : V) (d1 d2 : PyData), vs = [.ref a, .int n, v1, v2] ∧ SqT K H a xs ∧ PrTs K H xs qs ∧ Dq K H m l v1 d1 ∧ Dq K H m l v2 d2 ∧
  (∀ es, d2 = .tuple es → es.length ≤ 100000) ∧ ∀ H', Same H H' → Q (.bl (askD n d1 d2 qs)) H'
theorem ok_ask {f : Addr} {fd fdI fdNu : FuncData} (F : Fun K "is_ask" "is_ask" sPAsk f fd) (T : TxtR mg fI fN fS fA fG fNu fAs fPl fMo fNP fNM fNd aE aM) (FI : Fun K "is_int" "is_int" sPInt fI fdI) (bI : Binds K fdI ["thing"] [])
    (FNu : Fun K "is_number" "is_number" sPNum fNu fdNu) (bNu : Binds K fdNu ["many", "thing"] []) : FnOk P w K mg base CX0 3 f fd ["settings", "many", "setting", "nexts"] (spAsk K) := by
  have GNu : FnOk P w K mg base CX0 2 fNu fdNu ["many", "thing"] (spNum K) := ok_num FNu T.toTxtP FI bI
  refine F.ok scAs (fun vs H Q E h => ?_) (fun cdv A outer s H vs Q E hr h => ?_)
  · obtain ⟨m, l, a, xs, qs, n, v1, v2, d1, d2, rfl, _⟩ := h
    rfl
  · obtain ⟨m, l, a, xs, qs, n, v1, v2, d1, d2, rfl, hs, hp, h1, h2, hz, q⟩ := h
    refine ⟨_, pss_cons (ps_for PassesOwn.never rfl (pi_tup (pv 0)) (pg_tup rfl (pgs_cons (pg_name (i := 4) scAs.nd rfl (by first | exact Or.inl rfl | exact Or.inr rfl)) (pgs_cons (pg_name (i := 5) scAs.nd rfl (by first | exact Or.inl rfl | exact Or.inr rfl)) pgs_nil)))
        (pss_one (ps_if (pt_cmpR (op_Teq hr.units) (pv 4) (pv 2) (nomark _))
          (pss_cons (ps_set (i := 6) scAs.nd rfl (by first | exact Or.inl rfl | exact Or.inr rfl) (pe_and (pe_callB call_isi (by rfl) T.isi PyProof.Rows.boot_isinstance (pa_cons (pv 3) (pa_cons (pe_bltn (v := .ty "tuple") (u := .type "tuple") (by rfl) T.tuple (by decide +kernel) rfl) pa_nil))) (pe_one (pe_cmpR op_eq (pe_callB call_len (by rfl) T.len PySem.boot_len (pa_cons (pv 3) pa_nil)) (pe_op op_add (pv 5) pe_int) (nomark _)))))
          (pss_one (ps_ret (pe_and (pv 6) (pe_one (pe_callB (cr_all rfl) (by rfl) T.all (by decide +kernel) (pa_cons (pe_lc (own := [("number", 7)]) (g := gName 7) (by rfl) scAs.nd (pi_tup (pv 3)) (blkOk_by (own := [("number", 7)]) (N := NAs) (sc := defScope sPAsk) (by decide +kernel))
            (fun _ _ _ _ _ => pg_name (i := 7) scAs.nd rfl (Or.inl rfl)) (fun _ _ _ _ _ => pts_nil) (fun _ _ _ _ _ => pe_call GNu hr (by rfl) T.gNu FNu.kp bNu .nil pass0 (pa_cons (pv 1) (pa_cons (pv 7) pa_nil)))) pa_nil)))))))
          pss_nil)))
      (pss_one (ps_ret pe_bl)), ?_⟩
    have ll := hp.len
    refine ⟨_, rfl, a, rfl, ⟨_, hs⟩, ?_⟩
    refine for_it (walk_tup (xs := xs)) (fun i σ H2 => ∃ v4 v5 : Option V, σ = [some (.ref a), some (.int n), some v1, some v2, v4, v5, none, none] ∧ Same H H2 ∧ askD n d1 d2 qs = askD n d1 d2 (qs.drop i)) ⟨none, none, rfl, Same.refl H, rfl⟩ (fun i σ H2 _ ⟨_, _, _, s2, _⟩ => Same.seqT s2 hs) ?_ ?_
    · rintro i x σ H2 H3 hi ⟨v4, v5, rfl, s2, ed⟩ ⟨rfl, hx⟩
      obtain ⟨qq, hq, b, rfl, hb⟩ := hp.get hx
      have hiq : i < qs.length := by omega
      have edr : qs.drop i = qq :: qs.drop (i + 1) := by rw [List.drop_eq_getElem_cons hiq]; rw [(List.getElem?_eq_some_iff.mp hq).2]
      have e1 := Dq.same s2 d1 v1 h1
      have e2 := Dq.same s2 d2 v2 h2
      refine ⟨b, _, rfl, Same.seqT s2 hb, rfl, _, _, rfl, _, _, rfl, rfl, ?_⟩
      refine ⟨_, rfl, _, rfl, d1, m, l, qq.1, rfl, e1, _, rfl, ite_b (fun e => ?_) (fun e => ?_)⟩
      · have ea : askD n d1 d2 qs = nextsD n qq.2 d2 := by
          rw [ed, edr]; simp only [askD, if_pos e]
        refine ⟨_, rfl, v2, .ty "tuple", _, _, _, rfl, .ty _, e2.ty, isi_tup K d2, _, rfl, ?_⟩
        cases d2 with
        | tuple es =>
          cases e2 with
          | tup g2 gx =>
            rename_i p ys
            have ly := gx.len
            have lz := hz es rfl
            refine ifT rfl ⟨_, rfl, .ref p, ys.length, rfl, .inr ⟨ys, g2, rfl⟩, _, rfl, qq.2, 1, rfl, rfl, rfl, ?_⟩
            have ek : decide (V.int ((ys.length : Nat) : Int) = V.int (qq.2 + 1)) = decide ((es.length : Int) = qq.2 + 1) := by
              rw [Bool.eq_iff_iff, decide_eq_true_eq, decide_eq_true_eq, V.int.injEq, ly]
            refine ⟨_, rfl, _, rfl, ite_b (fun ee => ?_) (fun ee => ?_)⟩
            · rw [ek] at ee
              refine ⟨_, rfl, p, rfl, ⟨_, g2⟩, fun D hD => ?_⟩
              have sD : ∀ o, Same H3 (upd H3 D o) := fun o => Same.upd hD
              refine lc_it (walk_tup (xs := ys)) (fun j H4 => H4 = upd H3 D (.lst (((es.take j).map fun e => isWhole e 0 (n - 1)).map V.bl))) rfl (fun j H4 _ e4 => by rw [e4]; exact Same.seqT (sD _) g2) ?_ ?_
              · rintro j y H4 H5 hj e4 ⟨rfl, hy⟩
                obtain ⟨e, he, dqe⟩ := gx.get hy
                have ti : es.take (j + 1) = es.take j ++ [e] := by rw [List.take_succ, he]; rfl
                refine ⟨rfl, tyes ⟨_, rfl, _, rfl, m, l, y, e, n, rfl, by rw [e4]; exact Dq.same (sD _) e y dqe, _, by rw [e4]; exact upd_same, ?_, ?_⟩⟩
                · rw [List.length_map, List.length_map, List.length_take, sizeLine_eq]; omega
                · show upd H5 D _ = _
                  rw [e4, upd_upd, ti, List.map_append, List.map_append]; rfl
              · rintro H4 e4
                rw [List.take_of_length_le (by omega)] at e4
                refine ⟨D, _, rfl, SqL.of (by rw [e4, upd_same]), ?_⟩
                have ev : askD n d1 (.tuple es) qs = (es.map fun e => isWhole e 0 (n - 1)).all id := by
                  rw [ea, List.all_map]; simp only [nextsD, ee, Bool.true_and]; rfl
                rw [ev] at q
                exact q _ (s2.trans (e4 ▸ sD _))
            · rw [ek] at ee
              have ev : askD n d1 (.tuple es) qs = false := by rw [ea]; simp only [nextsD, ee, Bool.false_and]
              rw [ev] at q
              exact q _ s2
        | _ =>
          refine ifF rfl ⟨_, rfl, _, rfl, ifF rfl ?_⟩
          rw [ea] at q
          exact q _ s2
      · refine ⟨_, _, rfl, s2, ?_⟩
        rw [ed, edr]
        have e' : isTxt d1 qq.1 = false := e
        simp only [askD, e', if_neg Bool.false_ne_true]
    · rintro σ H2 ⟨v4, v5, rfl, s2, ed⟩
      rw [List.drop_of_length_le (by omega)] at ed
      rw [ed] at q
      exact q _ s2
end
end Ms
namespace Ms
open PySem PySem.Spec PyProof.Rows L2
section
variable {P : Program} {w : World} {K : PySem.W.Frag} {mg : Str → Option Value} {base : Heap} {fI fN fS fA fG fNu fAs fPl fMo fNP fNM fNd aE aM : Addr}
/-- the written tuples END and MODES -/
structure WrT (K : PySem.W.Frag) (aE aM : Addr) : Prop where
  e : ∀ H, SqT K H aE [.str "end"]
  m : ∀ H, SqT K H aM [.str "live", .str "met", .str "begin"]
theorem len3 {n : Nat} : decide (V.int ((n : Nat) : Int) = V.int 3) = decide (n = 3) := by
  rw [Bool.eq_iff_iff, decide_eq_true_eq, decide_eq_true_eq, V.int.injEq]; omega
theorem scPl : FnScope ["settings", "many", "thing"] ["settings", "many", "thing"] (defScope sPPlace) := ⟨rfl, rfl, rfl, by decide +kernel, rfl, by decide +kernel, by decide +kernel⟩
def spPlace (K : PySem.W.Frag) : Sp := fun vs H Q _ => ∃ (m l a : Addr) (xs : List V) (qs : List (Str × Int)) (n : Int) (v : V) (d : PyData) (B b : Nat), vs = [.ref a, .int n, v] ∧ SqT K H a xs ∧ PrTs K H xs qs ∧ Dq K H m l v d ∧ Gd B 100000 b d ∧
  ∀ H', Same H H' → Q (.bl (placeD qs n d)) H'
theorem ok_place {f : Addr} {fd fdI fdN fdNu fdAs : FuncData} (F : Fun K "is_place" "is_place" sPPlace f fd) (T : TxtR mg fI fN fS fA fG fNu fAs fPl fMo fNP fNM fNd aE aM) (W : WrT K aE aM) (FI : Fun K "is_int" "is_int" sPInt fI fdI) (bI : Binds K fdI ["thing"] [])
    (FN : Fun K "is_name" "is_name" sPName fN fdN) (bN : Binds K fdN ["thing"] []) (FNu : Fun K "is_number" "is_number" sPNum fNu fdNu) (bNu : Binds K fdNu ["many", "thing"] []) (FAs : Fun K "is_ask" "is_ask" sPAsk fAs fdAs) (bAs : Binds K fdAs ["settings", "many", "setting", "nexts"] []) :
    FnOk P w K mg base CX0 4 f fd ["settings", "many", "thing"] (spPlace K) := by
  have GN : FnOk P w K mg base CX0 1 fN fdN ["thing"] (spName K) := ok_pname FN T.toTxtP
  have GNu : FnOk P w K mg base CX0 2 fNu fdNu ["many", "thing"] (spNum K) := ok_num FNu T.toTxtP FI bI
  have GAs : FnOk P w K mg base CX0 3 fAs fdAs ["settings", "many", "setting", "nexts"] (spAsk K) := ok_ask FAs T FI bI FNu bNu
  refine F.ok scPl (fun vs H Q E h => ?_) (fun cdv A outer s H vs Q E hr h => ?_)
  · obtain ⟨m, l, a, xs, qs, n, v, d, B, b, rfl, _⟩ := h
    rfl
  · obtain ⟨m, l, a, xs, qs, n, v, d, B, b, rfl, hs, hp, hd, gd, q⟩ := h
    have hr1 : Room 1 _ := hr.mono (by decide)
    have hr2 : Room 2 _ := hr.mono (by decide)
    refine ⟨_, pss_cons (ps_if (pt_not (pt_val (pe_callB call_isi (by rfl) T.isi PyProof.Rows.boot_isinstance (pa_cons (pv 2) (pa_cons (pe_bltn (v := .ty "tuple") (u := .type "tuple") (by rfl) T.tuple (by decide +kernel) rfl) pa_nil))))) (pss_one (ps_ret pe_bl)) pss_nil)
      (pss_cons (ps_if (PW.pt (pw_and (pt_cmpR op_eq (pe_callB call_len (by rfl) T.len PySem.boot_len (pa_cons (pv 2) pa_nil)) pe_int (nomark _)) (pw_and1 (pt_cmpR (op_eqT hr.units) (pe_ix ix_tup (pv 2) pe_int (fun _ _ => rfl)) pe_str (nomark _)))))
        (pss_one (ps_ret (pe_and (pe_call GN hr1 rfl T.gN FN.kp bN .nil pass0 (pa_cons (pe_ix ix_tup (pv 2) pe_int (fun _ _ => rfl)) pa_nil)) (pe_one (pe_call GNu hr2 rfl T.gNu FNu.kp bNu .nil pass0 (pa_cons (pv 1) (pa_cons (pe_ix ix_tup (pv 2) pe_int (fun _ _ => rfl)) pa_nil))))))) pss_nil)
      (pss_cons (ps_if (PW.pt (pw_and (pt_cmpR op_eq (pe_callB call_len (by rfl) T.len PySem.boot_len (pa_cons (pv 2) pa_nil)) pe_int (nomark _)) (pw_and1 (pt_cmpR (op_eqT hr.units) (pe_ix ix_tup (pv 2) pe_int (fun _ _ => rfl)) pe_str (nomark _)))))
        (pss_one (ps_ret (pe_call GAs hr rfl T.gAs FAs.kp bAs .nil pass0 (pa_cons (pv 0) (pa_cons (pv 1) (pa_cons (pe_ix ix_tup (pv 2) pe_int (fun _ _ => rfl)) (pa_cons (pe_ix ix_tup (pv 2) pe_int (fun _ _ => rfl)) pa_nil))))))) pss_nil)
      (pss_one (ps_ret (pe_cmpR (op_eqE hr.units) (pv 2) (pe_glob (v := .ref aE) rfl T.gE rfl) (nomark _)))))), ?_⟩
    refine ⟨_, rfl, v, .ty "tuple", _, _, _, rfl, .ty _, hd.ty, isi_tup K d, _, rfl, ?_⟩
    cases d with
    | tuple ds =>
      cases hd with
      | tup h0 hx =>
        rename_i p ys
        have ly := hx.len
        obtain ⟨cc, eb, g⟩ := Gd.untup gd
        refine ifF rfl ?_
        have notend : ∀ H', Same H H' → Q (.bl (isEnd (.tuple ds) "end")) H' → SqT K H' p ys ∧ DqAll K H' m l ys ds := fun H' s' _ => ⟨Same.seqT s' h0, DqAll.same s' ds ys hx⟩
        refine ⟨_, rfl, .ref p, ys.length, rfl, .inr ⟨ys, h0, rfl⟩, rfl, _, rfl, ?_⟩
        rw [len3]
        by_cases l3 : ys.length = 3
        · obtain ⟨y0, y1, y2, rfl⟩ : ∃ y0 y1 y2, ys = [y0, y1, y2] := by
            match ys, l3 with
            | [y0, y1, y2], _ => exact ⟨y0, y1, y2, rfl⟩
          obtain ⟨e0, e1, e2, rfl⟩ : ∃ e0 e1 e2, ds = [e0, e1, e2] := by
            match ds, ly with
            | [e0, e1, e2], _ => exact ⟨e0, e1, e2, rfl⟩
          have p0 : placeD qs n (.tuple [e0, e1, e2]) = if isTxt e0 "do" = true then isName e1 && isWhole e2 0 (n - 1) else if isTxt e0 "ask" = true then askD n e1 e2 qs else false := by
            simp only [placeD, isEnd, List.length_cons, List.length_nil, List.getD_cons_zero, List.getD_cons_succ, true_and]
          rw [p0] at q
          obtain ⟨d0, d1, d2⟩ : Dq K H m l y0 e0 ∧ Dq K H m l y1 e1 ∧ Dq K H m l y2 e2 := by
            cases hx with
            | cons a0 h1 => cases h1 with | cons a1 h2 => cases h2 with | cons a2 _ => exact ⟨a0, a1, a2⟩
          have w1 : ∀ z, e1 = .str z → sOk 100000 z := fun z ez => by
            have gz := g.at (i := 1) (d := e1) rfl
            rw [ez] at gz
            have ww := g.wt
            refine gz.unstr.mono ?_
            rw [ez] at ww
            simp only [PyData.weightAll, PyData.weight] at ww ⊢
            omega
          have w2 : ∀ es, e2 = .tuple es → es.length ≤ 100000 := fun es ez => by
            have ww := g.wt
            rw [ez] at ww
            simp only [PyData.weightAll, PyData.weight] at ww
            have := wA_len es
            omega
          refine ifT (by simp) ?_
          refine ⟨_, rfl, p, _, 0, y0, rfl, rfl, h0, rfl, e0, m, l, "do", d0, rfl, _, rfl, ite_b (fun e => ?_) (fun e => ?_)⟩
          · rw [if_pos e] at q
            refine ⟨_, rfl, p, _, 1, y1, rfl, rfl, h0, rfl, m, l, y1, e1, rfl, d1, w1, fun H3 s3 => ⟨_, rfl, ite_b (fun e => ?_) (fun e => ?_)⟩⟩
            · refine ⟨_, rfl, _, rfl, p, _, 2, y2, rfl, rfl, Same.seqT s3 h0, rfl, m, l, y2, e2, n, rfl, Dq.same s3 e2 y2 d2, ?_⟩
              rw [e, Bool.true_and] at q
              exact q _ s3
            · rw [e, Bool.false_and] at q
              exact q _ s3
          · rw [if_neg (by rw [e]; exact Bool.false_ne_true)] at q
            refine ⟨_, rfl, .ref p, 3, rfl, .inr ⟨_, h0, rfl⟩, rfl, _, rfl, ifT (by decide) ?_⟩
            refine ⟨_, rfl, p, _, 0, y0, rfl, rfl, h0, rfl, e0, m, l, "ask", d0, rfl, _, rfl, ite_b (fun e' => ?_) (fun e' => ?_)⟩
            · rw [if_pos e'] at q
              exact ⟨_, rfl, _, rfl, _, rfl, p, _, 1, y1, rfl, rfl, h0, rfl, _, rfl, p, _, 2, y2, rfl, rfl, h0, rfl, m, l, a, xs, qs, n, y1, y2, e1, e2, rfl, hs, hp, d1, d2, w2, q⟩
            · rw [if_neg (by rw [e']; exact Bool.false_ne_true)] at q
              exact ⟨_, rfl, p, aE, m, l, _, [e0, e1, e2], "end", rfl, rfl, h0, hx, W.e H, q H (Same.refl H)⟩
        · have l3' : ¬ ds.length = 3 := by omega
          have p0 : placeD qs n (.tuple ds) = isEnd (.tuple ds) "end" := by
            unfold placeD
            simp only [l3', false_and, if_false]
          rw [p0] at q
          have nl : decide (ys.length = 3) = false := decide_eq_false l3
          refine ifF nl ?_
          refine ifF rfl ?_
          refine ⟨_, rfl, .ref p, ys.length, rfl, .inr ⟨ys, h0, rfl⟩, rfl, _, rfl, ?_⟩
          rw [len3]
          refine ifF nl ?_
          refine ifF rfl ?_
          exact ⟨_, rfl, p, aE, m, l, ys, ds, "end", rfl, rfl, h0, hx, W.e H, q H (Same.refl H)⟩
    | _ => exact ifT rfl (q H (Same.refl H))
/-! is_mode -/
theorem scMo : FnScope ["thing"] ["thing"] (defScope sPMode) := ⟨rfl, rfl, rfl, by decide +kernel, rfl, by decide +kernel, by decide +kernel⟩
def spMode (K : PySem.W.Frag) : Sp := fun vs H Q _ => ∃ (m l : Addr) (v : V) (d : PyData), vs = [v] ∧ Dq K H m l v d ∧ Q (.bl (isMode d)) H
theorem ok_mode {f : Addr} {fd : FuncData} (F : Fun K "is_mode" "is_mode" sPMode f fd) (T : TxtR mg fI fN fS fA fG fNu fAs fPl fMo fNP fNM fNd aE aM) (W : WrT K aE aM) : FnOk P w K mg base CX0 1 f fd ["thing"] (spMode K) := by
  refine F.ok scMo (fun vs H Q E h => ?_) (fun cdv A outer s H vs Q E hr h => ?_)
  · obtain ⟨m, l, v, d, rfl, _⟩ := h
    rfl
  · obtain ⟨m, l, v, d, rfl, hd, q⟩ := h
    refine ⟨_, pss_one (ps_ret (pe_and (pe_callB call_isi (by rfl) T.isi PyProof.Rows.boot_isinstance (pa_cons (pv 0) (pa_cons (pe_bltn (v := .ty "str") (u := .type "str") (by rfl) T.str (by decide +kernel) rfl) pa_nil)))
      (pe_one (pe_cmpR op_in_seq (pv 0) (pe_glob (v := .ref aM) rfl T.gM rfl) (by rfl))))), ?_⟩
    refine ⟨_, rfl, v, .ty "str", _, _, _, rfl, .ty _, hd.ty, isi_str K d, _, rfl, ?_⟩
    cases d with
    | str z =>
      cases hd
      refine ifT rfl ⟨_, rfl, aM, _, rfl, .inr (W.m H), rfl, rfl, ?_⟩
      have e : inV (.str z) [.str "live", .str "met", .str "begin"] = isMode (.str z) := inV_str z ["live", "met", "begin"]
      rw [e]
      exact q
    | _ => exact ifF rfl q
end
end Ms
namespace Ms
open PySem PySem.Spec PyProof.Rows L2
/-! ### drawn names are names, and no two are the same -/
def lowC (c : Nat) : Prop := 97 ≤ c ∧ c ≤ 122
def Lw (a : Nat) (z : Str) : Prop := z.length ≤ a ∧ ∀ c ∈ z.cps.toList, lowC c
theorem Lw.ok {a : Nat} {z : Str} (h : Lw a z) : sOk a z := ⟨h.1, fun c hc => by have := (h.2 c hc).2; omega⟩
theorem Lw.mono {a b : Nat} {z : Str} (h : Lw a z) (k : a ≤ b) : Lw b z := ⟨Nat.le_trans h.1 k, h.2⟩
theorem app_list (z y : Str) : (z ++ y).cps.toList = z.cps.toList ++ y.cps.toList := Array.toList_append
theorem Lw.app {a b : Nat} {z y : Str} (h : Lw a z) (k : Lw b y) : Lw (a + b) (z ++ y) := by
  refine ⟨by rw [Str.length_append]; exact Nat.add_le_add h.1 k.1, fun c hc => ?_⟩
  rw [app_list] at hc
  exact (List.mem_append.mp hc).elim (h.2 c) (k.2 c)
theorem cut_list (z : Str) (lo hi : Option Int) : (cutS z lo hi).cps.toList = (z.cps.toList.drop (HT.sIx z.length 0 lo)).take (HT.sIx z.length z.length hi - HT.sIx z.length 0 lo) := by simp [cutS]
theorem len_list (z : Str) : z.cps.toList.length = z.length := Array.length_toList
theorem Lw.cut {a : Nat} {z : Str} (h : Lw a z) (lo hi : Option Int) : Lw a (cutS z lo hi) := by
  refine ⟨?_, fun c hc => h.2 c ?_⟩
  · rw [← len_list, cut_list, List.length_take, List.length_drop, len_list]
    have := h.1
    omega
  · rw [cut_list] at hc
    exact List.mem_of_mem_drop (List.mem_of_mem_take hc)
theorem Lw.sign {c : Nat} (h : lowC c) : Lw 1 ⟨#[c]⟩ := ⟨Nat.le_refl _, fun d hd => by simp at hd; rw [hd]; exact h⟩
theorem alpha_nat : ∀ j : Nat, j < 26 → alpha.cps.toList[j]? = some (97 + j) := by
  intro j h
  rw [alpha_list]
  have : ∀ j : Fin 26, ([97, 98, 99, 100, 101, 102, 103, 104, 105, 106, 107, 108, 109, 110, 111, 112, 113, 114, 115, 116, 117, 118, 119, 120, 121, 122] : List Nat)[j.1]? = some (97 + j.1) := by decide
  exact this ⟨j, h⟩
theorem alpha_at2 {i : Int} (h0 : 0 ≤ i) (h1 : i < 26) : atI alpha.cps.toList i = some (97 + i.toNat) ∧ lowC (97 + i.toNat) := by
  obtain ⟨j, rfl⟩ : ∃ j : Nat, i = (j : Int) := ⟨i.toNat, by omega⟩
  refine ⟨atI_nat (alpha_nat j (by omega)), ?_⟩
  unfold lowC
  omega
def nmOk (z : Str) : Prop := 1 ≤ z.length ∧ z.length ≤ 8 ∧ ∀ c ∈ z.cps.toList, lowC c
theorem nmOk.ok {z : Str} (h : nmOk z) : sOk 16 z := ⟨by have := h.2.1; omega, fun c hc => by have := (h.2.2 c hc).2; omega⟩
theorem map_nodup {k : Nat} {f : Nat → Str} (h : ∀ i j, i < k → j < k → f i = f j → i = j) : ((List.range k).map f).Nodup := by
  unfold List.Nodup
  rw [List.pairwise_map]
  refine List.Pairwise.imp_of_mem ?_ (List.pairwise_lt_range (n := k))
  intro i j hi hj hlt e
  have := h i j (List.mem_range.mp hi) (List.mem_range.mp hj) e
  omega
/-- beginnings or ends of one word -/
def fA (W : Str) (b : Int) (k : Nat) (i : Nat) : Str := if b > 7 then cutS W (some (0 + (i : Int))) none else cutS W none (some (0 + (i : Int) + 9 - (k : Int)))
theorem fA_len {W : Str} {b : Int} {k i : Nat} (hW : W.length = 8) (hk : k ≤ 8) (hi : i < k) : (fA W b k i).length = if b > 7 then 8 - i else i + 9 - k := by
  unfold fA
  by_cases h : b > 7
  · rw [if_pos h, if_pos h, ← len_list, cut_list, List.length_take, List.length_drop, len_list, hW]
    have e : (0 + (i : Int)) = ((i : Nat) : Int) := by omega
    rw [e, HT.sIx_nat]
    show min (8 - min i 8) (8 - min i 8) = 8 - i
    omega
  · rw [if_neg h, if_neg h, ← len_list, cut_list, List.length_take, List.length_drop, len_list, hW]
    have e : (0 + (i : Int) + 9 - (k : Int)) = ((i + 9 - k : Nat) : Int) := by omega
    rw [e, HT.sIx_nat, HT.sIx_none]
    omega
theorem fA_good {W : Str} {b : Int} {k : Nat} (hW : Lw 16 W) (h8 : W.length = 8) (hk : k ≤ 8) : ((List.range k).map (fA W b k)).Nodup ∧ ∀ y ∈ (List.range k).map (fA W b k), nmOk y := by
  refine ⟨map_nodup fun i j hi hj e => ?_, fun y hy => ?_⟩
  · have l1 := fA_len (b := b) h8 hk hi
    have l2 := fA_len (b := b) h8 hk hj
    rw [e, l2] at l1
    split at l1 <;> omega
  · obtain ⟨i, hi, rfl⟩ := List.mem_map.mp hy
    have hi' := List.mem_range.mp hi
    have l := fA_len (b := b) h8 hk hi'
    refine ⟨by rw [l]; split <;> omega, by rw [l]; split <;> omega, ?_⟩
    unfold fA
    split
    · exact (hW.cut _ _).2
    · exact (hW.cut _ _).2
/-- one letter exchanged -/
def fB (z : Str) (r5 r6 b : Int) (i : Nat) : Str := cutS z none (some r5) ++ ⟨#[97 + ((r6 + b * (0 + (i : Int))) % 26).toNat]⟩ ++ cutS z (some r5) none
theorem fB_list (z : Str) (r5 r6 b : Int) (i : Nat) : (fB z r5 r6 b i).cps.toList = (cutS z none (some r5)).cps.toList ++ [97 + ((r6 + b * (0 + (i : Int))) % 26).toNat] ++ (cutS z (some r5) none).cps.toList := by
  unfold fB
  rw [app_list, app_list]
theorem fB_good {z : Str} {r5 r6 b : Int} {k : Nat} (hz : Lw 7 z) (h0 : 0 ≤ r5) (h1 : r5 ≤ z.length) (hb : b = 1 ∨ b = 3 ∨ b = 5) (hk : k ≤ 8) : ((List.range k).map (fB z r5 r6 b)).Nodup ∧ ∀ y ∈ (List.range k).map (fB z r5 r6 b), nmOk y := by
  refine ⟨map_nodup fun i j hi hj e => ?_, fun y hy => ?_⟩
  · have e' : (fB z r5 r6 b i).cps.toList = (fB z r5 r6 b j).cps.toList := by rw [e]
    rw [fB_list, fB_list, List.append_assoc, List.append_assoc] at e'
    have e2 := List.append_cancel_left e'
    have e3 : 97 + ((r6 + b * (0 + (i : Int))) % 26).toNat = 97 + ((r6 + b * (0 + (j : Int))) % 26).toNat := by
      simp only [List.cons_append, List.nil_append, List.cons.injEq] at e2
      exact e2.1
    have p1 := Int.emod_nonneg (r6 + b * (0 + (i : Int))) (b := 26) (by decide)
    have p2 := Int.emod_nonneg (r6 + b * (0 + (j : Int))) (b := 26) (by decide)
    rcases hb with rfl | rfl | rfl <;> omega
  · obtain ⟨i, hi, rfl⟩ := List.mem_map.mp hy
    have l := hz.1
    obtain ⟨n5, rfl⟩ : ∃ n : Nat, r5 = (n : Int) := ⟨r5.toNat, by omega⟩
    have len : (fB z (n5 : Int) r6 b i).length = z.length + 1 := by
      rw [← len_list, fB_list, List.length_append, List.length_append, cut_list, cut_list, List.length_take, List.length_drop, List.length_take, List.length_drop, len_list, HT.sIx_nat, HT.sIx_none, HT.sIx_nat, HT.sIx_none]
      simp only [List.length_cons, List.length_nil]
      omega
    refine ⟨by rw [len]; omega, by rw [len]; omega, fun c hc => ?_⟩
    rw [fB_list] at hc
    have q1 := Int.emod_nonneg (r6 + b * (0 + (i : Int))) (b := 26) (by decide)
    have q2 := Int.emod_lt_of_pos (r6 + b * (0 + (i : Int))) (b := 26) (by decide)
    rcases List.mem_append.mp hc with hc | hc
    · rcases List.mem_append.mp hc with hc | hc
      · exact (hz.cut _ _).2 c hc
      · rw [List.mem_singleton.mp hc]
        unfold lowC
        omega
    · exact (hz.cut _ _).2 c hc
theorem mul8_len (z : Str) (c : Nat) : (cutS (z ++ Txt.mul ⟨#[c]⟩ 8) none (some 8)).length = 8 := by
  rw [mul8, ← len_list, cut_list, List.length_take, List.length_drop, len_list, Str.length_append, HT.sIx_none]
  have e : (8 : Int) = ((8 : Nat) : Int) := rfl
  rw [e, HT.sIx_nat]
  show min (min 8 (z.length + 8) - 0) (z.length + 8 - 0) = 8
  omega
section
variable {P : Program} {w : World} {K : PySem.W.Frag} {mg : Str → Option Value} {base : Heap} {fN : Addr}
def spNamesV : Sp := fun vs H Q _ => ∃ (m l : Addr) (n : Nat) (k : Nat), vs = [.ref m, .int (k : Int)] ∧ Mch H m l n ∧ n < 900000 ∧ 1 ≤ k ∧ k ≤ 8 ∧
  ∀ (p : Addr) (ys : List Str) (l' : Addr) (H' : Hp), H p = none → H' p = some (.lst (ys.map V.str)) → ys.length = k → ys.Nodup → (∀ y ∈ ys, nmOk y) → p ≠ m → p ≠ l' → Mch H' m l' (n + 11) → Fr m l l' H H' → Q (.ref p) H'
theorem ok_namesV {f : Addr} {fd fdN : FuncData} (F : Fun K "_law_names" "_law_names" sNames f fd) (T : TxtN mg fN) (FN : Fun K "_law_next" "_law_next" sNext fN fdN) (bN : Binds K fdN ["m", "many"] []) : FnOk P w K mg base CX0 2 f fd ["m", "many"] spNamesV := by
  have GN : FnOk P w K mg base CX0 1 fN fdN ["m", "many"] spNext := ok_next FN T.toTxt
  refine F.ok scNm (fun vs H Q E h => ?_) (fun cdv A outer s H vs Q E hr h => ?_)
  · obtain ⟨m, l, n, k, rfl, _⟩ := h
    rfl
  · obtain ⟨m, l, n, k, rfl, M, hn, hk, hk2, q⟩ := h
    refine ⟨_, pss_cons (ps_asg (pe_tup (pa_cons pe_str (pa_cons pe_str pa_nil))) (pg_tup rfl (pgs_cons (pg_name (i := 2) scNm.nd rfl (Or.inr rfl)) (pgs_cons (pg_name (i := 3) scNm.nd rfl (Or.inr rfl)) pgs_nil))))
      (pss_cons (ps_for PassesOwn.never rfl (pi_range1 (by rfl) T.range (pa_cons (pe_call GN hr rfl T.next FN.kp bN .nil pass0 (pa_cons (pv 0) (pa_cons pe_int pa_nil))) pa_nil)) (pg_name (i := 4) scNm.nd rfl (Or.inl rfl))
        (pss_one (ps_set (i := 3) scNm.nd rfl (Or.inr rfl) (pe_op op_add_str (pv 3) (pe_ix ix_str (pv 2) (pe_call GN hr rfl T.next FN.kp bN .nil pass0 (pa_cons (pv 0) (pa_cons pe_int pa_nil))) (fun _ _ => rfl))))))
      (pss_cons (ps_asg (pe_tup (pa_cons (pe_call GN hr rfl T.next FN.kp bN .nil pass0 (pa_cons (pv 0) (pa_cons (pe_op op_add (pe_callB call_len_str (by rfl) T.len PySem.boot_len (pa_cons (pv 3) pa_nil)) pe_int) pa_nil)))
          (pa_cons (pe_call GN hr rfl T.next FN.kp bN .nil pass0 (pa_cons (pv 0) (pa_cons pe_int pa_nil)))
          (pa_cons (pe_ix ix_list (pe_lst (pa_cons pe_int (pa_cons pe_int (pa_cons pe_int (pa_cons pe_int (pa_cons pe_int (pa_cons pe_int pa_nil))))))) (pe_call GN hr rfl T.next FN.kp bN .nil pass0 (pa_cons (pv 0) (pa_cons pe_int pa_nil))) (fun _ _ => rfl)) pa_nil))))
        (pg_tup rfl (pgs_cons (pg_name (i := 5) scNm.nd rfl (Or.inr rfl)) (pgs_cons (pg_name (i := 6) scNm.nd rfl (Or.inr rfl)) (pgs_cons (pg_name (i := 7) scNm.nd rfl (Or.inr rfl)) pgs_nil)))))
      (pss_cons (ps_set (i := 8) scNm.nd rfl (Or.inr rfl) (pe_slice sl_str (pe_op op_add_str (pv 3) (pe_op op_mul_si (pe_ix ix_str (pv 2) (pv 6) (fun _ _ => rfl)) pe_int)) po_none (po_some pe_int)))
      (pss_cons (ps_if (pt_cmpR op_gt (pv 7) pe_int (nomark _)) (pss_one (ps_ret (pe_lc (own := [("k", 4)]) (g := gName 4) (by rfl) scNm.nd (pi_range1 (by rfl) T.range (pa_cons (pv 1) pa_nil)) (blkOk_by (own := [("k", 4)]) (N := NN) (sc := defScope sNames) (by decide +kernel))
          (fun _ _ _ _ _ => pg_name (i := 4) scNm.nd rfl (Or.inl rfl)) (fun _ _ _ _ _ => pts_nil) (fun _ _ _ _ _ => pe_ifExp (pt_cmpR op_gt (pv 7) pe_int (nomark _)) (pe_slice sl_str (pv 8) (po_some (pv 4)) po_none) (pe_slice sl_str (pv 8) po_none (po_some (pe_op op_sub (pe_op op_add (pv 4) pe_int) (pv 1)))))))) pss_nil)
      (pss_one (ps_ret (pe_lc (own := [("k", 4)]) (g := gName 4) (by rfl) scNm.nd (pi_range1 (by rfl) T.range (pa_cons (pv 1) pa_nil)) (blkOk_by (own := [("k", 4)]) (N := NN) (sc := defScope sNames) (by decide +kernel))
          (fun _ _ _ _ _ => pg_name (i := 4) scNm.nd rfl (Or.inl rfl)) (fun _ _ _ _ _ => pts_nil) (fun _ _ _ _ _ => pe_op op_add_str (pe_op op_add_str (pe_slice sl_str (pv 3) po_none (po_some (pv 5)))
            (pe_ix ix_str (pv 2) (pe_op op_mod (pe_callTy call_int1 (by rfl) T.int (by decide +kernel) (pa_cons (pe_op op_add (pv 6) (pe_op op_mul (pv 7) (pv 4))) pa_nil)) pe_int) (fun _ _ => rfl))) (pe_slice sl_str (pv 3) (po_some (pv 5)) po_none))))))))), ?_⟩
    refine ⟨(by show 2 ≤ sizeLine; decide), fun p1 h1 => ⟨p1, _, rfl, .inl (.inl upd_same), rfl, _, _, rfl, _, _, rfl, rfl, ?_⟩⟩
    have s1 : Same H _ := Same.upd (o := .tup [.str alpha, .str ""]) h1
    refine ⟨_, rfl, m, l, n, 8, rfl, M.same s1, by omega, by decide, by decide, fun r0 l1 H1 r0p r0l M1 f1 => ?_⟩
    refine ⟨r0, rfl, by omega, by omega, ?_⟩
    refine for_range (lo := 0) (n := r0.toNat) (fun i σ H2 => ∃ (z : Str) (v4 : Option V) (l2 : Addr), σ = [some (.ref m), some (.int (k : Int)), some (.str alpha), some (.str z), v4, none, none, none, none] ∧ Lw i z ∧ Mch H2 m l2 (n + 1 + i) ∧ Fr m l l2 H H2)
      ⟨"", _, l1, rfl, ⟨Nat.le_refl _, fun c hc => by cases hc⟩, M1, Fr.lead s1 f1⟩ ?_ ?_
    · rintro i σ H2 hi ⟨z, v4, l2, rfl, hz, M2, f2⟩
      refine ⟨_, rfl, _, rfl, _, rfl, m, l2, _, 26, rfl, M2, by omega, by decide, by decide, fun r l3 H3 rp rl M3 f3 => ?_⟩
      obtain ⟨hc, hc2⟩ := alpha_at2 rp rl
      refine ⟨alpha, r, _, rfl, rfl, alpha_len, hc, z, _, rfl, rfl, ?_, ?_⟩
      · have := hz.1
        show z.length + 1 ≤ sizeLine
        exact small1000 (by omega)
      · exact ⟨_, _, l3, rfl, hz.app (Lw.sign hc2), M3, f2.trans f3⟩
    · rintro σ H2 ⟨z, v4, l2, rfl, hz, M2, f2⟩
      have z7 := hz.1
      have zs : z.length ≤ sizeLine := Nat.le_of_lt (small1000 (by omega))
      refine ⟨_, rfl, _, rfl, z, rfl, zs, _, _, rfl, rfl, m, l2, _, (z.length : Int) + 1, rfl, M2, by omega, by omega, by omega, fun r5 l3 H3 a5 b5 M3 f3 => ?_⟩
      refine ⟨_, rfl, m, l3, _, 26, rfl, M3, by omega, by decide, by decide, fun r6 l4 H4 a6 b6 M4 f4 => ?_⟩
      refine ⟨(by show 6 ≤ sizeLine; decide), fun pL hL => ?_⟩
      have sL := Same.upd (o := .lst [.int 1, .int 3, .int 5, .int 7, .int 9, .int 11]) hL
      have nL := M4.ne hL
      refine ⟨_, rfl, m, l4, _, 6, rfl, M4.same sL, by omega, by decide, by decide, fun r7 l5 H5 a7 b7 M5 f5 => ?_⟩
      obtain ⟨b, hb, bs, b11⟩ : ∃ b : Int, atI ([.int 1, .int 3, .int 5, .int 7, .int 9, .int 11] : List V) r7 = some (.int b) ∧ (b = 1 ∨ b = 3 ∨ b = 5 ∨ 5 < b) ∧ b ≤ 11 := by
        obtain ⟨j, rfl⟩ : ∃ j : Nat, r7 = (j : Int) := ⟨r7.toNat, by omega⟩
        have hj : j < 6 := by omega
        match j, hj with
        | 0, _ => exact ⟨1, rfl, by omega, by omega⟩
        | 1, _ => exact ⟨3, rfl, by omega, by omega⟩
        | 2, _ => exact ⟨5, rfl, by omega, by omega⟩
        | 3, _ => exact ⟨7, rfl, by omega, by omega⟩
        | 4, _ => exact ⟨9, rfl, by omega, by omega⟩
        | 5, _ => exact ⟨11, rfl, by omega, by omega⟩
      refine ⟨pL, _, r7, .int b, rfl, rfl, SqL.of (f5.keep pL _ upd_same nL.1 nL.2), hb, (by show 3 ≤ sizeLine; decide), fun p3 h3 => ?_⟩
      have F5 : Fr m l l5 H H5 := f2.trans (f3.trans (f4.trans (Fr.lead sL f5)))
      refine ⟨p3, _, rfl, .inl (.inl upd_same), rfl, _, _, rfl, _, _, rfl, _, _, rfl, rfl, ?_⟩
      have s3 := Same.upd (o := .tup [.int r5, .int r6, .int b]) h3
      have M6 := M5.same s3
      have F6 := F5.junk (o := .tup [.int r5, .int r6, .int b]) h3
      obtain ⟨hc6, cc6⟩ := alpha_at2 a6 b6
      obtain ⟨c6, ec6⟩ : ∃ c6, c6 = 97 + r6.toNat := ⟨_, rfl⟩
      rw [← ec6] at hc6 cc6
      refine ⟨_, rfl, _, rfl, _, rfl, alpha, r6, c6, rfl, rfl, alpha_len, hc6, _, 8, rfl, rfl, mul8_ok c6, z, _, rfl, rfl, ?_, 8, rfl, _, rfl, ?_, ?_⟩
      · rw [mul8]
        show z.length + 8 ≤ sizeLine
        exact Nat.le_of_lt (small1000 (by omega))
      · rw [mul8, Str.length_append]
        show z.length + 8 ≤ sizeLine
        exact Nat.le_of_lt (small1000 (by omega))
      obtain ⟨W, hW, eW⟩ : ∃ W, Lw 16 W ∧ W = cutS (z ++ Txt.mul { cps := #[c6] } 8) none (some 8) := ⟨_, by
        rw [mul8]
        exact (((hz.mono (show r0.toNat ≤ 7 by omega)).app (b := 8) ⟨by show 8 ≤ 8; decide, fun d hd => by simp at hd; rw [hd]; exact cc6⟩).mono (by decide)).cut _ _, rfl⟩
      rw [← eW]
      have W8 : W.length = 8 := by rw [eW]; exact mul8_len z c6
      have Wl : W.length ≤ sizeLine := Nat.le_trans hW.1 (by decide)
      have ek : ((k : Int)).toNat = k := by omega
      refine ⟨_, rfl, _, _, rfl, rfl, _, rfl, ite2 (fun hb5 => ?_) (fun hb5 => ?_)⟩
      · refine ⟨_, rfl, (k : Int), rfl, by omega, by omega, fun D hD => ?_⟩
        have nD := M6.ne hD
        refine lc_range (lo := 0) (n := ((k : Int)).toNat) (fun i H9 => H9 = upd _ D (.lst (((List.range i).map (fA W b k)).map V.str))) rfl ?_ ?_
        · rintro i H9 hi e9
          have li : ((List.range i).map (fA W b k)).length = i := by rw [List.length_map, List.length_range]
          have gr : ∀ y, y = fA W b k i → upd H9 D (.lst (((List.range i).map (fA W b k)).map V.str ++ [.str y])) = upd (upd H5 p3 (.tup [.int r5, .int r6, .int b])) D (.lst (((List.range (i + 1)).map (fA W b k)).map V.str)) := fun y ey => by
            rw [str_grow e9, ey]; simp only [List.range_succ, List.map_append]; rfl
          refine ⟨rfl, tyes ?_⟩
          refine ⟨_, rfl, _, _, rfl, rfl, _, rfl, ite2 (fun h7 => ?_) (fun h7 => ?_)⟩
          · exact ⟨_, rfl, _, rfl, _, rfl, _, rfl, Wl, _, by rw [e9]; exact upd_same, small1000 (by rw [List.length_map, li]; omega), gr _ (by unfold fA; rw [if_pos (show b > 7 from of_decide_eq_true h7)])⟩
          · exact ⟨_, rfl, _, rfl, _, _, rfl, rfl, _, rfl, _, _, rfl, rfl, _, rfl, _, rfl, Wl, _, by rw [e9]; exact upd_same, small1000 (by rw [List.length_map, li]; omega), gr _ (by unfold fA; rw [if_neg (show ¬ b > 7 from fun z => h7 (decide_eq_true z))])⟩
        · rintro H9 e9
          rw [ek] at e9
          obtain ⟨g1, g2⟩ := fA_good (b := b) hW W8 hk2
          have sD := Same.upd (o := .lst (((List.range k).map (fA W b k)).map V.str)) hD
          rw [e9]
          exact q D _ l5 _ (F6.free hD) upd_same (by rw [List.length_map, List.length_range]) g1 g2 nD.1 nD.2 ((M6.same sD).mono (by omega)) (F6.junk hD)
      · refine ⟨_, rfl, (k : Int), rfl, by omega, by omega, fun D hD => ?_⟩
        have nD := M6.ne hD
        have hz7 : Lw 7 z := hz.mono (by omega)
        have z7o := hz7.ok
        refine lc_range (lo := 0) (n := ((k : Int)).toNat) (fun i H9 => H9 = upd _ D (.lst (((List.range i).map (fB z r5 r6 b)).map V.str))) rfl ?_ ?_
        · rintro i H9 hi e9
          have li : ((List.range i).map (fB z r5 r6 b)).length = i := by rw [List.length_map, List.length_range]
          have nb5 : ¬ (5 < b) := fun z => hb5 (decide_eq_true z)
          have b15 : 1 ≤ b ∧ b ≤ 11 := by omega
          obtain ⟨hc9, cc9⟩ := alpha_at2 (i := (r6 + b * (0 + (i : Int))) % 26) (Int.emod_nonneg _ (by decide)) (Int.emod_lt_of_pos _ (by decide))
          have p1 := (hz7.cut none (some r5))
          have p2 := (p1.app (Lw.sign cc9))
          have p3' := (hz7.cut (some r5) none)
          refine ⟨rfl, tyes ?_⟩
          refine ⟨_, rfl, _, rfl, _, rfl, _, rfl, zs, _, rfl, _, rfl, _, rfl, _, rfl, _, _, rfl, rfl, .inr ⟨by omega, by omega⟩, _, _, rfl, rfl, .inl ⟨_, rfl, _, _, rfl, rfl, (by show (0 : Int) < 26; decide), ?_⟩⟩
          refine ⟨alpha, _, _, rfl, rfl, alpha_len, hc9, _, _, rfl, rfl, ?_, _, rfl, _, rfl, _, rfl, _, rfl, zs, _, _, rfl, rfl, ?_, _, by rw [e9]; exact upd_same, small1000 (by rw [List.length_map, li]; omega), ?_⟩
          · have := p1.1
            show _ + 1 ≤ sizeLine
            exact Nat.le_of_lt (small1000 (by omega))
          · have := p2.1
            have := p3'.1
            exact Nat.le_of_lt (small1000 (by omega))
          · rw [str_grow e9]; simp only [List.range_succ, List.map_append]; rfl
        · rintro H9 e9
          rw [ek] at e9
          obtain ⟨g1, g2⟩ := fB_good (r5 := r5) (r6 := r6) (b := b) hz7 a5 (by omega) (by have nb5 : ¬ (5 < b) := fun z => hb5 (decide_eq_true z); omega) hk2
          have sD := Same.upd (o := .lst (((List.range k).map (fB z r5 r6 b)).map V.str)) hD
          rw [e9]
          exact q D _ l5 _ (F6.free hD) upd_same (by rw [List.length_map, List.length_range]) g1 g2 nD.1 nD.2 ((M6.same sD).mono (by omega)) (F6.junk hD)
end
end Ms
namespace Ms
open PySem PySem.Spec PyProof.Rows L2
/-! ### drawn settings are settings -/
theorem nm_name {z : Str} (h : nmOk z) : isName (.str z) = true := by
  obtain ⟨h1, h2, h3⟩ := h
  show ((decide (1 ≤ z.length) && decide (z.length ≤ 8)) && z.cps.toList.all fun c => decide (c ∈ alpha.cps.toList)) = true
  have ef : (fun c => decide (c ∈ alpha.cps.toList)) = lowB := funext lowB_alpha
  rw [decide_eq_true h1, decide_eq_true h2, ef, Bool.and_true, Bool.true_and, List.all_eq_true]
  intro c hc
  obtain ⟨a, b⟩ := h3 c hc
  unfold lowB
  rw [decide_eq_true a, decide_eq_true b]; rfl
theorem due_all : ∀ (qs : List (Str × Int)) (p : Nat) (seen : List Str) (mn : Int), (∀ q ∈ qs, isName (.str q.1) = true ∧ 1 ≤ q.2 ∧ q.2 ≤ 3) → (∀ q ∈ qs, q.1 ∉ seen) → (qs.map (·.1)).Nodup → dueGo p seen mn (prD qs) = .inr (qs.foldl (fun m q => m * (q.2 + 1)) mn)
  | [], p, seen, mn, _, _, _ => rfl
  | q :: qs, p, seen, mn, h, hs, hn => by
    obtain ⟨h1, h2, h3⟩ := h q (List.mem_cons_self ..)
    have hw : isWhole (.int q.2) 1 3 = true := by show (decide (1 ≤ q.2) && decide (q.2 ≤ 3)) = true; rw [decide_eq_true h2, decide_eq_true h3]; rfl
    have eo : oneD (.tuple [.str q.1, .int q.2]) = some (q.1, q.2) := by simp only [oneD]; rw [h1, hw]; rfl
    have nq := hs q (List.mem_cons_self ..)
    rw [List.map_cons, List.nodup_cons] at hn
    show dueGo p seen mn (.tuple [.str q.1, .int q.2] :: prD qs) = _
    simp only [dueGo, eo, if_neg nq]
    rw [due_all qs (p + 1) (seen ++ [q.1]) (mn * (q.2 + 1)) (fun x hx => h x (List.mem_cons_of_mem _ hx)) (fun x hx z => ?_) hn.2]
    · rfl
    · rcases List.mem_append.mp z with z | z
      · exact hs x (List.mem_cons_of_mem _ hx) z
      · have e : x.1 = q.1 := List.mem_singleton.mp z
        exact hn.1 (by rw [← e]; exact List.mem_map_of_mem hx)
/-- settings, as pairs -/
structure SetOk (ys : List (Str × Int)) : Prop where
  len1 : 1 ≤ ys.length
  len3 : ys.length ≤ 3
  nm : ∀ q ∈ ys, nmOk q.1
  most : ∀ q ∈ ys, 1 ≤ q.2 ∧ q.2 ≤ 3
  nodup : (ys.map (·.1)).Nodup
  few : many ys ≤ 12
theorem prD_len (ys : List (Str × Int)) : (prD ys).length = ys.length := by unfold prD; exact List.length_map ..
theorem SetOk.need {ys : List (Str × Int)} (s : SetOk ys) : needV (.tuple (prD ys)) = none := by
  have e := due_all ys 0 [] 1 (fun q hq => ⟨nm_name (s.nm q hq), s.most q hq⟩) (fun q _ z => nomatch z) s.nodup
  unfold needV
  simp only [prD_len, if_pos (And.intro s.len1 s.len3), e]
  have f := s.few
  unfold many at f
  rw [if_pos f]
theorem SetOk.okP {ys : List (Str × Int)} (s : SetOk ys) : okP ys := fun q hq => ⟨(s.nm q hq).ok, s.most q hq⟩
theorem zip_many : ∀ (ys : List Str) (ms : List Int) (i : Int), ys.length = ms.length → (ys.zip ms).foldl (fun m q => m * (q.2 + 1)) i = ms.foldl (fun m x => m * (x + 1)) i
  | [], [], _, _ => rfl
  | y :: ys, x :: ms, i, h => zip_many ys ms (i * (x + 1)) (by simpa using h)
  | [], _ :: _, _, h => by simp at h
  | _ :: _, [], _, h => by simp at h
theorem zip_fst : ∀ (ys : List Str) (ms : List Int), ys.length = ms.length → (ys.zip ms).map (·.1) = ys
  | [], [], _ => rfl
  | y :: ys, x :: ms, h => by
    show y :: (ys.zip ms).map (·.1) = y :: ys
    rw [zip_fst ys ms (by simpa using h)]
  | [], _ :: _, h => by simp at h
  | _ :: _, [], h => by simp at h
/-- how often each may stand: one to three small ints -/
def MoV (H : Hp) (a : Addr) : Prop := ∃ ms : List Int, H a = some (.tup (ms.map V.int)) ∧ 1 ≤ ms.length ∧ ms.length ≤ 3 ∧ (∀ x ∈ ms, 1 ≤ x ∧ x ≤ 3) ∧ ms.foldl (fun m x => m * (x + 1)) 1 ≤ 12
theorem MoV.same {H H' : Hp} {a : Addr} (s : Same H H') (h : MoV H a) : MoV H' a := by
  obtain ⟨ms, e, r⟩ := h
  exact ⟨ms, s _ _ e, r⟩
section
variable {P : Program} {w : World} {K : PySem.W.Frag} {mg : Str → Option Value} {base : Heap} {fN fM : Addr}
def spSettingsV : Sp := fun vs H Q _ => ∃ (m l : Addr) (n : Nat), vs = [.ref m] ∧ Mch H m l n ∧ n < 800000 ∧
  ∀ (p : Addr) (as : List Addr) (ys : List (Str × Int)) (l' : Addr) (H' : Hp), H' p = some (.tup (as.map V.ref)) → Prs H' as ys → SetOk ys → Mch H' m l' (n + 12) → Fr m l l' H H' → Q (.ref p) H'
theorem ok_settingsV {f : Addr} {fd fdN fdM : FuncData} (F : Fun K "_law_settings" "_law_settings" sSettings f fd) (T : TxtS mg fN fM) (FN : Fun K "_law_next" "_law_next" sNext fN fdN) (bN : Binds K fdN ["m", "many"] [])
    (FM : Fun K "_law_names" "_law_names" sNames fM fdM) (bM : Binds K fdM ["m", "many"] []) : FnOk P w K mg base CX0 3 f fd ["m"] spSettingsV := by
  have GN : FnOk P w K mg base CX0 2 fN fdN ["m", "many"] spNext := (ok_next FN T.toTxt).mono (by decide)
  have GM : FnOk P w K mg base CX0 2 fM fdM ["m", "many"] spNamesV := ok_namesV FM T.toTxtN FN bN
  refine F.ok scSt (fun vs H Q E h => ?_) (fun cdv A outer s H vs Q E hr h => ?_)
  · obtain ⟨m, l, n, rfl, _⟩ := h
    rfl
  · obtain ⟨m, l, n, rfl, M, hn, q⟩ := h
    refine ⟨_, pss_cons (ps_set (i := 1) scSt.nd rfl (by first | exact Or.inl rfl | exact Or.inr rfl) (pe_lst (pa_cons (pe_tup (pa_cons pe_int pa_nil)) (pa_cons (pe_tup (pa_cons pe_int pa_nil)) (pa_cons (pe_tup (pa_cons pe_int pa_nil)) (pa_cons (pe_tup (pa_cons pe_int (pa_cons pe_int pa_nil))) (pa_cons (pe_tup (pa_cons pe_int (pa_cons pe_int pa_nil))) (pa_cons (pe_tup (pa_cons pe_int (pa_cons pe_int pa_nil))) (pa_cons (pe_tup (pa_cons pe_int (pa_cons pe_int pa_nil))) (pa_cons (pe_tup (pa_cons pe_int (pa_cons pe_int pa_nil))) (pa_cons (pe_tup (pa_cons pe_int (pa_cons pe_int pa_nil))) (pa_cons (pe_tup (pa_cons pe_int (pa_cons pe_int (pa_cons pe_int pa_nil)))) (pa_cons (pe_tup (pa_cons pe_int (pa_cons pe_int (pa_cons pe_int pa_nil)))) (pa_cons (pe_tup (pa_cons pe_int (pa_cons pe_int (pa_cons pe_int pa_nil)))) pa_nil))))))))))))))
      (pss_cons (ps_set (i := 2) scSt.nd rfl (by first | exact Or.inl rfl | exact Or.inr rfl) (pe_ix ix_list (pv 1) (pe_call GN hr rfl T.next FN.kp bN .nil pass0 (pa_cons (pv 0) (pa_cons pe_int pa_nil))) (fun _ _ => rfl)))
      (pss_one (ps_ret (pe_callTy call_tuple_of (by rfl) T.tuple (by decide +kernel) (pa_cons (pe_lc (own := [("name", 3), ("most", 4)]) (g := gTup K 2 (gCons (gName 3) (gCons (gName 4) gNil))) (by rfl) scSt.nd
        (pi_zm (by rfl) T.zip (pa_cons (pe_call GM hr rfl T.names FM.kp bM .nil pass0 (pa_cons (pv 0) (pa_cons (pe_callB call_len (by rfl) T.len PySem.boot_len (pa_cons (pv 2) pa_nil)) pa_nil))) (pa_cons (pv 2) pa_nil)))
        (blkOk_by (own := [("name", 3), ("most", 4)]) (N := NS) (sc := defScope sSettings) (by decide +kernel))
        (fun _ _ _ _ _ => pg_tup rfl (pgs_cons (pg_name (i := 3) scSt.nd rfl (Or.inl rfl)) (pgs_cons (pg_name (i := 4) scSt.nd rfl (Or.inl rfl)) pgs_nil))) (fun _ _ _ _ _ => pts_nil)
        (fun _ _ _ _ _ => pe_tup (pa_cons (pv 3) (pa_cons (pv 4) pa_nil)))) pa_nil))))), ?_⟩
    refine ⟨(by show 1 ≤ sizeLine; decide), fun p1 h1 => ?_⟩
    obtain ⟨G1, e1⟩ : ∃ G, G = upd H p1 (.tup [.int 1]) := ⟨_, rfl⟩
    rw [← e1]
    have s1 : Same H G1 := e1 ▸ Same.upd h1
    have M1 := M.same s1
    have f1 : Fr m l l H G1 := e1 ▸ (Fr.refl M).junk h1
    have a1_1 : MoV G1 p1 := ⟨[1], by rw [e1, upd_same]; rfl, by decide, by decide, by decide, by decide⟩
    refine ⟨(by show 1 ≤ sizeLine; decide), fun p2 h2 => ?_⟩
    obtain ⟨G2, e2⟩ : ∃ G, G = upd G1 p2 (.tup [.int 2]) := ⟨_, rfl⟩
    rw [← e2]
    have s2 : Same G1 G2 := e2 ▸ Same.upd h2
    have M2 := M1.same s2
    have f2 : Fr m l l H G2 := e2 ▸ f1.junk h2
    have a2_2 : MoV G2 p2 := ⟨[2], by rw [e2, upd_same]; rfl, by decide, by decide, by decide, by decide⟩
    have a1_2 := a1_1.same s2
    refine ⟨(by show 1 ≤ sizeLine; decide), fun p3 h3 => ?_⟩
    obtain ⟨G3, e3⟩ : ∃ G, G = upd G2 p3 (.tup [.int 3]) := ⟨_, rfl⟩
    rw [← e3]
    have s3 : Same G2 G3 := e3 ▸ Same.upd h3
    have M3 := M2.same s3
    have f3 : Fr m l l H G3 := e3 ▸ f2.junk h3
    have a3_3 : MoV G3 p3 := ⟨[3], by rw [e3, upd_same]; rfl, by decide, by decide, by decide, by decide⟩
    have a1_3 := a1_2.same s3
    have a2_3 := a2_2.same s3
    refine ⟨(by show 2 ≤ sizeLine; decide), fun p4 h4 => ?_⟩
    obtain ⟨G4, e4⟩ : ∃ G, G = upd G3 p4 (.tup [.int 1, .int 1]) := ⟨_, rfl⟩
    rw [← e4]
    have s4 : Same G3 G4 := e4 ▸ Same.upd h4
    have M4 := M3.same s4
    have f4 : Fr m l l H G4 := e4 ▸ f3.junk h4
    have a4_4 : MoV G4 p4 := ⟨[1, 1], by rw [e4, upd_same]; rfl, by decide, by decide, by decide, by decide⟩
    have a1_4 := a1_3.same s4
    have a2_4 := a2_3.same s4
    have a3_4 := a3_3.same s4
    refine ⟨(by show 2 ≤ sizeLine; decide), fun p5 h5 => ?_⟩
    obtain ⟨G5, e5⟩ : ∃ G, G = upd G4 p5 (.tup [.int 1, .int 2]) := ⟨_, rfl⟩
    rw [← e5]
    have s5 : Same G4 G5 := e5 ▸ Same.upd h5
    have M5 := M4.same s5
    have f5 : Fr m l l H G5 := e5 ▸ f4.junk h5
    have a5_5 : MoV G5 p5 := ⟨[1, 2], by rw [e5, upd_same]; rfl, by decide, by decide, by decide, by decide⟩
    have a1_5 := a1_4.same s5
    have a2_5 := a2_4.same s5
    have a3_5 := a3_4.same s5
    have a4_5 := a4_4.same s5
    refine ⟨(by show 2 ≤ sizeLine; decide), fun p6 h6 => ?_⟩
    obtain ⟨G6, e6⟩ : ∃ G, G = upd G5 p6 (.tup [.int 2, .int 1]) := ⟨_, rfl⟩
    rw [← e6]
    have s6 : Same G5 G6 := e6 ▸ Same.upd h6
    have M6 := M5.same s6
    have f6 : Fr m l l H G6 := e6 ▸ f5.junk h6
    have a6_6 : MoV G6 p6 := ⟨[2, 1], by rw [e6, upd_same]; rfl, by decide, by decide, by decide, by decide⟩
    have a1_6 := a1_5.same s6
    have a2_6 := a2_5.same s6
    have a3_6 := a3_5.same s6
    have a4_6 := a4_5.same s6
    have a5_6 := a5_5.same s6
    refine ⟨(by show 2 ≤ sizeLine; decide), fun p7 h7 => ?_⟩
    obtain ⟨G7, e7⟩ : ∃ G, G = upd G6 p7 (.tup [.int 2, .int 2]) := ⟨_, rfl⟩
    rw [← e7]
    have s7 : Same G6 G7 := e7 ▸ Same.upd h7
    have M7 := M6.same s7
    have f7 : Fr m l l H G7 := e7 ▸ f6.junk h7
    have a7_7 : MoV G7 p7 := ⟨[2, 2], by rw [e7, upd_same]; rfl, by decide, by decide, by decide, by decide⟩
    have a1_7 := a1_6.same s7
    have a2_7 := a2_6.same s7
    have a3_7 := a3_6.same s7
    have a4_7 := a4_6.same s7
    have a5_7 := a5_6.same s7
    have a6_7 := a6_6.same s7
    refine ⟨(by show 2 ≤ sizeLine; decide), fun p8 h8 => ?_⟩
    obtain ⟨G8, e8⟩ : ∃ G, G = upd G7 p8 (.tup [.int 1, .int 3]) := ⟨_, rfl⟩
    rw [← e8]
    have s8 : Same G7 G8 := e8 ▸ Same.upd h8
    have M8 := M7.same s8
    have f8 : Fr m l l H G8 := e8 ▸ f7.junk h8
    have a8_8 : MoV G8 p8 := ⟨[1, 3], by rw [e8, upd_same]; rfl, by decide, by decide, by decide, by decide⟩
    have a1_8 := a1_7.same s8
    have a2_8 := a2_7.same s8
    have a3_8 := a3_7.same s8
    have a4_8 := a4_7.same s8
    have a5_8 := a5_7.same s8
    have a6_8 := a6_7.same s8
    have a7_8 := a7_7.same s8
    refine ⟨(by show 2 ≤ sizeLine; decide), fun p9 h9 => ?_⟩
    obtain ⟨G9, e9⟩ : ∃ G, G = upd G8 p9 (.tup [.int 3, .int 2]) := ⟨_, rfl⟩
    rw [← e9]
    have s9 : Same G8 G9 := e9 ▸ Same.upd h9
    have M9 := M8.same s9
    have f9 : Fr m l l H G9 := e9 ▸ f8.junk h9
    have a9_9 : MoV G9 p9 := ⟨[3, 2], by rw [e9, upd_same]; rfl, by decide, by decide, by decide, by decide⟩
    have a1_9 := a1_8.same s9
    have a2_9 := a2_8.same s9
    have a3_9 := a3_8.same s9
    have a4_9 := a4_8.same s9
    have a5_9 := a5_8.same s9
    have a6_9 := a6_8.same s9
    have a7_9 := a7_8.same s9
    have a8_9 := a8_8.same s9
    refine ⟨(by show 3 ≤ sizeLine; decide), fun p10 h10 => ?_⟩
    obtain ⟨G10, e10⟩ : ∃ G, G = upd G9 p10 (.tup [.int 1, .int 1, .int 1]) := ⟨_, rfl⟩
    rw [← e10]
    have s10 : Same G9 G10 := e10 ▸ Same.upd h10
    have M10 := M9.same s10
    have f10 : Fr m l l H G10 := e10 ▸ f9.junk h10
    have a10_10 : MoV G10 p10 := ⟨[1, 1, 1], by rw [e10, upd_same]; rfl, by decide, by decide, by decide, by decide⟩
    have a1_10 := a1_9.same s10
    have a2_10 := a2_9.same s10
    have a3_10 := a3_9.same s10
    have a4_10 := a4_9.same s10
    have a5_10 := a5_9.same s10
    have a6_10 := a6_9.same s10
    have a7_10 := a7_9.same s10
    have a8_10 := a8_9.same s10
    have a9_10 := a9_9.same s10
    refine ⟨(by show 3 ≤ sizeLine; decide), fun p11 h11 => ?_⟩
    obtain ⟨G11, e11⟩ : ∃ G, G = upd G10 p11 (.tup [.int 1, .int 2, .int 1]) := ⟨_, rfl⟩
    rw [← e11]
    have s11 : Same G10 G11 := e11 ▸ Same.upd h11
    have M11 := M10.same s11
    have f11 : Fr m l l H G11 := e11 ▸ f10.junk h11
    have a11_11 : MoV G11 p11 := ⟨[1, 2, 1], by rw [e11, upd_same]; rfl, by decide, by decide, by decide, by decide⟩
    have a1_11 := a1_10.same s11
    have a2_11 := a2_10.same s11
    have a3_11 := a3_10.same s11
    have a4_11 := a4_10.same s11
    have a5_11 := a5_10.same s11
    have a6_11 := a6_10.same s11
    have a7_11 := a7_10.same s11
    have a8_11 := a8_10.same s11
    have a9_11 := a9_10.same s11
    have a10_11 := a10_10.same s11
    refine ⟨(by show 3 ≤ sizeLine; decide), fun p12 h12 => ?_⟩
    obtain ⟨G12, e12⟩ : ∃ G, G = upd G11 p12 (.tup [.int 1, .int 1, .int 2]) := ⟨_, rfl⟩
    rw [← e12]
    have s12 : Same G11 G12 := e12 ▸ Same.upd h12
    have M12 := M11.same s12
    have f12 : Fr m l l H G12 := e12 ▸ f11.junk h12
    have a12_12 : MoV G12 p12 := ⟨[1, 1, 2], by rw [e12, upd_same]; rfl, by decide, by decide, by decide, by decide⟩
    have a1_12 := a1_11.same s12
    have a2_12 := a2_11.same s12
    have a3_12 := a3_11.same s12
    have a4_12 := a4_11.same s12
    have a5_12 := a5_11.same s12
    have a6_12 := a6_11.same s12
    have a7_12 := a7_11.same s12
    have a8_12 := a8_11.same s12
    have a9_12 := a9_11.same s12
    have a10_12 := a10_11.same s12
    have a11_12 := a11_11.same s12
    refine ⟨(by show 12 ≤ sizeLine; decide), fun D hD => ?_⟩
    obtain ⟨G, eG⟩ : ∃ G, G = upd G12 D (.lst [.ref p1, .ref p2, .ref p3, .ref p4, .ref p5, .ref p6, .ref p7, .ref p8, .ref p9, .ref p10, .ref p11, .ref p12]) := ⟨_, rfl⟩
    rw [← eG]
    have sG : Same G12 G := eG ▸ Same.upd hD
    have nD := M12.ne hD
    have MG := M12.same sG
    have fG : Fr m l l H G := eG ▸ f12.junk hD
    have gD : G D = some (.lst [.ref p1, .ref p2, .ref p3, .ref p4, .ref p5, .ref p6, .ref p7, .ref p8, .ref p9, .ref p10, .ref p11, .ref p12]) := by rw [eG, upd_same]
    have pick : ∀ r : Int, 0 ≤ r → r < 12 → ∃ a, atI ([.ref p1, .ref p2, .ref p3, .ref p4, .ref p5, .ref p6, .ref p7, .ref p8, .ref p9, .ref p10, .ref p11, .ref p12] : List V) r = some (.ref a) ∧ MoV G a := by
      intro r h0 h1
      obtain ⟨j, rfl⟩ : ∃ j : Nat, r = (j : Int) := ⟨r.toNat, by omega⟩
      have hj : j < 12 := by omega
      match j, hj with
      | 0, _ => exact ⟨p1, rfl, a1_12.same sG⟩
      | 1, _ => exact ⟨p2, rfl, a2_12.same sG⟩
      | 2, _ => exact ⟨p3, rfl, a3_12.same sG⟩
      | 3, _ => exact ⟨p4, rfl, a4_12.same sG⟩
      | 4, _ => exact ⟨p5, rfl, a5_12.same sG⟩
      | 5, _ => exact ⟨p6, rfl, a6_12.same sG⟩
      | 6, _ => exact ⟨p7, rfl, a7_12.same sG⟩
      | 7, _ => exact ⟨p8, rfl, a8_12.same sG⟩
      | 8, _ => exact ⟨p9, rfl, a9_12.same sG⟩
      | 9, _ => exact ⟨p10, rfl, a10_12.same sG⟩
      | 10, _ => exact ⟨p11, rfl, a11_12.same sG⟩
      | 11, _ => exact ⟨p12, rfl, a12_12.same sG⟩
    clear e1 s1 M1 f1 e2 s2 M2 f2 e3 s3 M3 f3 e4 s4 M4 f4 e5 s5 M5 f5 e6 s6 M6 f6 e7 s7 M7 f7 e8 s8 M8 f8 e9 s9 M9 f9 e10 s10 M10 f10 e11 s11 M11 f11 a1_1 a1_2 a2_2 a1_3 a2_3 a3_3 a1_4 a2_4 a3_4 a4_4 a1_5 a2_5 a3_5 a4_5 a5_5 a1_6 a2_6 a3_6 a4_6 a5_6 a6_6 a1_7 a2_7 a3_7 a4_7 a5_7 a6_7 a7_7 a1_8 a2_8 a3_8 a4_8 a5_8 a6_8 a7_8 a8_8 a1_9 a2_9 a3_9 a4_9 a5_9 a6_9 a7_9 a8_9 a9_9 a1_10 a2_10 a3_10 a4_10 a5_10 a6_10 a7_10 a8_10 a9_10 a10_10 a1_11 a2_11 a3_11 a4_11 a5_11 a6_11 a7_11 a8_11 a9_11 a10_11 a11_11 a1_12 a2_12 a3_12 a4_12 a5_12 a6_12 a7_12 a8_12 a9_12 a10_12 a11_12 a12_12
    refine ⟨_, rfl, _, rfl, m, l, n, 12, rfl, MG, by omega, by decide, by decide, fun r l1 H1 r0 r1 M1 f1' => ?_⟩
    obtain ⟨a, ha, mo⟩ := pick r r0 r1
    refine ⟨D, _, r, .ref a, rfl, rfl, SqL.of (f1'.keep D _ gD nD.1 nD.2), ha, ?_⟩
    obtain ⟨ms, hms, ml1, ml3, msok, mfew⟩ := mo
    have am : a ≠ m ∧ a ≠ l := by
      obtain ⟨c, cs, ls, z, dm, dc, dl, _⟩ := MG.ex
      exact ⟨ne_of hms dm (by intro q; cases q), ne_of hms dl (by intro q; cases q)⟩
    have ka : H1 a = some (.tup (ms.map V.int)) := f1'.keep a _ hms am.1 am.2
    have F1 : Fr m l l1 H H1 := fG.trans f1'
    clear pick gD eG sG MG fG hD e12 s12 M12 f12 h12 h11 h10 h9 h8 h7 h6 h5 h4 h3 h2 h1 ha f1' hms
    have lenA : ((ms.map V.int).length : Nat) = ms.length := List.length_map ..
    refine ⟨_, rfl, _, rfl, _, _, rfl, .inr ⟨_, SqT.of ka, rfl⟩, ?_⟩
    refine ⟨m, l1, n + 1, (ms.map V.int).length, rfl, M1, by omega, by omega, by omega, fun N ys l2 H2 hN gN yl yn yo nm nl M2 f2 => ?_⟩
    have F2 := F1.trans f2
    have ka2 : H2 a = some (.tup (ms.map V.int)) := f2.keep a _ ka am.1 (by
      obtain ⟨c, cs, ls, z, dm, dc, dl, _⟩ := M1.ex
      exact ne_of ka dl (by intro q; cases q))
    refine ⟨_, rfl, N, a, _, _, rfl, SqL.of gN, .inl (.inl ka2), fun D2 hD2 => ?_⟩
    have yl' : ys.length = ms.length := yl.trans lenA
    refine lc_it (walk_zm (xs := ys.map V.str) (ys := ms.map V.int) (n := ms.length) (by simp [yl'])) (fun i H3 => ∃ as : List Addr, as.length = i ∧ Prs H3 as ((ys.zip ms).take i) ∧ (∀ b ∈ as, b ≠ D2) ∧ H3 D2 = some (.lst (as.map V.ref)) ∧ Same H2 H3)
      ⟨[], rfl, .nil, (fun _ hb => nomatch hb), upd_same, Same.upd hD2⟩ (fun i H3 _ ⟨as, _, _, _, _, s3⟩ => ⟨SqL.of (s3 _ _ gN), SqT.of (s3 _ _ ka2)⟩) ?_ ?_
    · rintro i x H3 H4 hi ⟨as, al, pr, nd, gd, s3⟩ ⟨T, x1, x2, rfl, hT, rfl, e1, e2⟩
      have hy : i < ys.length := by omega
      have e1' : x1 = .str ys[i] := by simp [hy] at e1; exact e1.symm
      have e2' : x2 = .int ms[i] := by simp [hi] at e2; exact e2.symm
      subst e1' e2'
      refine ⟨T, _, rfl, .inl (.inl upd_same), rfl, _, _, rfl, _, _, rfl, rfl, rfl, tyes ?_⟩
      refine ⟨_, rfl, _, rfl, (by show 2 ≤ sizeLine; decide), fun p hp => ?_⟩
      have sT : Same H3 (upd H3 T (.tup [.str ys[i], .int ms[i]])) := Same.upd hT
      have sp : Same (upd H3 T (.tup [.str ys[i], .int ms[i]])) (upd (upd H3 T (.tup [.str ys[i], .int ms[i]])) p (.tup [.str ys[i], .int ms[i]])) := Same.upd hp
      have nDp : p ≠ D2 := fun e => by rw [e, sT _ _ gd] at hp; cases hp
      refine ⟨_, sp _ _ (sT _ _ gd), small1000 (by rw [List.length_map]; omega), as ++ [p], by simp [al], ?_, ?_, ?_, ?_⟩
      · rw [List.take_succ]
        have ez : (ys.zip ms)[i]? = some (ys[i], ms[i]) := by rw [List.getElem?_zip_eq_some]; exact ⟨List.getElem?_eq_getElem hy, List.getElem?_eq_getElem hi⟩
        rw [ez]
        refine Prs.snoc (Prs.same (fun b o hb e => ?_) pr) ?_
        · rw [upd_ne (nd b hb)]; exact sp _ _ (sT _ _ e)
        · rw [upd_ne nDp, upd_same]
      · intro b hb
        rcases List.mem_append.mp hb with hb | hb
        · exact nd b hb
        · rw [List.mem_singleton.mp hb]; exact nDp
      · rw [upd_same, List.map_append]; rfl
      · intro b o e
        have nb : b ≠ D2 := ne_of_none e hD2
        rw [upd_ne nb]; exact sp _ _ (sT _ _ (s3 _ _ e))
    · rintro H3 ⟨as, al, pr, nd, gd, s3⟩
      have lz : (ys.zip ms).length = ms.length := by simp [yl']
      rw [List.take_of_length_le (by omega)] at pr
      refine ⟨D2, _, rfl, .inl ⟨SqL.of gd, fun p hp => ?_⟩⟩
      have sp : Same H3 (upd H3 p (.tup (as.map V.ref))) := Same.upd hp
      have so : SetOk (ys.zip ms) := by
        refine ⟨by omega, by omega, fun y hy => yo _ (List.of_mem_zip hy).1, fun y hy => msok _ (List.of_mem_zip hy).2, by rw [zip_fst ys ms yl']; exact yn, ?_⟩
        unfold many
        rw [zip_many ys ms 1 yl']; exact mfew
      exact q p as (ys.zip ms) l2 _ upd_same (pr.same fun b o _ e => sp b o e) so ((((M2.same s3).same sp)).mono (by omega)) ((F2.trail s3).trail sp)
end
end Ms
namespace Ms
open PySem PySem.Spec PyProof.Rows L2
/-! ### need_places, need_modes -/
def firstBad (f : PyData → Bool) : Nat → List PyData → Option Nat
  | _, [] => none
  | p, d :: ds => if f d = true then firstBad f (p + 1) ds else some p
def placesV (qs : List (Str × Int)) (d : PyData) : Option V := match d with
  | .tuple ds => if 1 ≤ ds.length ∧ ds.length ≤ 16 then (firstBad (placeD qs ds.length) 0 ds).map fun p => V.int (p : Nat) else some .non
  | _ => some .non
def modesV (k : Nat) (d : PyData) : Option V := match d with
  | .tuple ds => if ds.length = k then (firstBad isMode 0 ds).map fun p => V.int (p : Nat) else some .non
  | _ => some .non
section
variable {P : Program} {w : World} {K : PySem.W.Frag} {mg : Str → Option Value} {base : Heap} {fI fN fS fA fG fNu fAs fPl fMo fNP fNM fNd aE aM C fE : Addr}
theorem scInP : FnScope ["self", "place"] ["self", "place"] (defScope sIniP) := ⟨rfl, rfl, rfl, by decide +kernel, rfl, by decide +kernel, by decide +kernel⟩
theorem ok_iniP {fd : FuncData} {qual : Str} (F : Fun K "__init__" qual sIniP fE fd) (TE : ErrC K C fE) : FnOk P w K mg base CX0 1 fE fd ["self", "place"] (spIni C) := by
  refine F.ok scInP (fun vs H Q E h => ?_) (fun cdv A outer s H vs Q E hr h => ?_)
  · obtain ⟨a, y, rfl, _⟩ := h
    rfl
  · obtain ⟨a, y, rfl, e, q⟩ := h
    exact ⟨_, pss_one (ps_ost (pv 0) (pv 1)), ⟨_, rfl, _, rfl, a, C, rfl, TE.ox, TE.no, .inl ⟨e, fun dx h1 h2 => q dx h1 h2⟩⟩⟩
theorem scInM : FnScope ["self", "place"] ["self", "place"] (defScope sIniM) := ⟨rfl, rfl, rfl, by decide +kernel, rfl, by decide +kernel, by decide +kernel⟩
theorem ok_iniM {fd : FuncData} {qual : Str} (F : Fun K "__init__" qual sIniM fE fd) (TE : ErrC K C fE) : FnOk P w K mg base CX0 1 fE fd ["self", "place"] (spIni C) := by
  refine F.ok scInM (fun vs H Q E h => ?_) (fun cdv A outer s H vs Q E hr h => ?_)
  · obtain ⟨a, y, rfl, _⟩ := h
    rfl
  · obtain ⟨a, y, rfl, e, q⟩ := h
    exact ⟨_, pss_one (ps_ost (pv 0) (pv 1)), ⟨_, rfl, _, rfl, a, C, rfl, TE.ox, TE.no, .inl ⟨e, fun dx h1 h2 => q dx h1 h2⟩⟩⟩
def spNPl (K : PySem.W.Frag) (C : Addr) : Sp := fun vs H Q E => ∃ (m l a : Addr) (xs : List V) (qs : List (Str × Int)) (v : V) (d : PyData) (B b : Nat), vs = [.ref a, v] ∧ SqT K H a xs ∧ PrTs K H xs qs ∧ Dq K H m l v d ∧ Gd B 100000 b d ∧
  (placesV qs d = none → ∀ H', Same H H' → Q v H') ∧ ∀ u, placesV qs d = some u → ∀ dx H', H dx = none → Same H H' → H' dx = some (.xd [("place", u)]) → E (.ref C) (some dx) H'
abbrev NNp : List Str := ["settings", "places", "at", "place"]
theorem scNp : FnScope NNp ["settings", "places"] (defScope sNPlaces) := ⟨rfl, rfl, rfl, by decide +kernel, rfl, by decide +kernel, by decide +kernel⟩
theorem ok_nplaces {f : Addr} {fd fdI fdN fdNu fdAs fdPl fdE : FuncData} {qual : Str} (F : Fun K "need_places" "need_places" sNPlaces f fd) (T : TxtR mg fI fN fS fA fG fNu fAs fPl fMo fNP fNM fNd aE aM) (W : WrT K aE aM) (gC : mg "BadPlaces" = some (.ref C)) (TE : ErrC K C fE) (FI : Fun K "is_int" "is_int" sPInt fI fdI) (bI : Binds K fdI ["thing"] [])
    (FN : Fun K "is_name" "is_name" sPName fN fdN) (bN : Binds K fdN ["thing"] []) (FNu : Fun K "is_number" "is_number" sPNum fNu fdNu) (bNu : Binds K fdNu ["many", "thing"] []) (FAs : Fun K "is_ask" "is_ask" sPAsk fAs fdAs) (bAs : Binds K fdAs ["settings", "many", "setting", "nexts"] [])
    (FPl : Fun K "is_place" "is_place" sPPlace fPl fdPl) (bPl : Binds K fdPl ["settings", "many", "thing"] []) (FE : Fun K "__init__" qual sIniP fE fdE) (bE : Binds K fdE ["self", "place"] []) : FnOk P w K mg base (L2.CX P w) 5 f fd ["settings", "places"] (spNPl K C) := by
  have GPl : FnOk P w K mg base CX0 4 fPl fdPl ["settings", "many", "thing"] (spPlace K) := ok_place FPl T W FI bI FN bN FNu bNu FAs bAs
  have GE : FnOk P w K mg base CX0 1 fE fdE ["self", "place"] (spIni C) := ok_iniP FE TE
  refine F.okX scNp (fun vs H Q E h => ?_) (fun cdv A outer s H vs Q E hr h => ?_)
  · obtain ⟨m, l, a, xs, qs, v, d, B, b, rfl, _⟩ := h
    rfl
  obtain ⟨m, l, a, xs, qs, v, d, B, b, rfl, hs, hp, hd, gd, q, qe⟩ := h
  obtain ⟨tp, gp⟩ := T.mP
  have hr2 : Room 2 _ := hr.mono (by decide)
  refine ⟨_, pss_cons (ps_if (PW.pt (pw_or (pt_not (pt_val (pe_callB call_isi (by rfl) T.isi PyProof.Rows.boot_isinstance (pa_cons (pv 1) (pa_cons (pe_bltn (v := .ty "tuple") (u := .type "tuple") (by rfl) T.tuple (by decide +kernel) rfl) pa_nil)))))
      (pw_or1 (pt_not (pt_chain op_le op_le pe_int (pe_callB call_len (by rfl) T.len PySem.boot_len (pa_cons (pv 1) pa_nil)) (pe_glob (v := .int 16) rfl gp ⟨_, rfl⟩)))))) (pss_one (ps_raise rfl (takes_of rfl rfl rfl rfl) (pmk_oex TE.ox TE.ini TE.ty GE hr2 bE .nil pass0 (by rfl) gC (pa_cons pe_non pa_nil)))) pss_nil)
    (pss_cons (ps_for (passes_of rfl) rfl (pi_et (by rfl) T.enumerate (pa_cons (pv 1) pa_nil)) (pg_tup rfl (pgs_cons (pg_name (i := 2) scNp.nd rfl (by first | exact Or.inl rfl | exact Or.inr rfl)) (pgs_cons (pg_name (i := 3) scNp.nd rfl (by first | exact Or.inl rfl | exact Or.inr rfl)) pgs_nil)))
      (pss_one (ps_if (pt_not (pt_val (pe_call GPl hr rfl T.gPl FPl.kp bPl .nil pass0 (pa_cons (pv 0) (pa_cons (pe_callB call_len (by rfl) T.len PySem.boot_len (pa_cons (pv 1) pa_nil)) (pa_cons (pv 3) pa_nil))))))
        (pss_one (ps_raise rfl (takes_of rfl rfl rfl rfl) (pmk_oex TE.ox TE.ini TE.ty GE hr2 bE .nil pass0 (by rfl) gC (pa_cons (pv 2) pa_nil)))) pss_nil)))
    (pss_one (ps_ret (pv 1)))), ?_⟩
  refine ⟨_, rfl, v, .ty "tuple", _, _, _, rfl, .ty _, hd.ty, isi_tup K d, _, rfl, ?_⟩
  cases d with
  | tuple ds =>
    cases hd with
    | tup h0 hx =>
      rename_i p ys
      refine ifF rfl ?_
      have ly := hx.len
      have none0 : ¬ (1 ≤ ds.length ∧ ds.length ≤ 16) → placesV qs (.tuple ds) = some .non := fun h => if_neg h
      refine ⟨_, rfl, .ref p, ys.length, rfl, .inr ⟨ys, h0, rfl⟩, 1, (ys.length : Int), rfl, rfl, _, rfl, ite_b (fun e1 => ⟨(ys.length : Int), 16, rfl, rfl, _, rfl, ite_b (fun e8 => mk_one (qe _ (none0 ?_))) (fun e8 => ?_)⟩) (fun e1 => ⟨_, rfl, ifT rfl (mk_one (qe _ (none0 ?_)))⟩)⟩
      · have : ¬ ((ys.length : Int) ≤ 16) := by simpa using e8
        omega
      · have l3 : (ys.length : Int) ≤ 16 := by simpa using e8
        have l1 : (1 : Int) ≤ (ys.length : Int) := of_decide_eq_true e1
        have ed : placesV qs (.tuple ds) = (firstBad (placeD qs ds.length) 0 ds).map fun p => V.int (p : Nat) := if_pos ⟨by omega, by omega⟩
        rw [ed] at q qe
        refine ⟨_, rfl, p, ys, rfl, h0, ?_⟩
        refine for_it walk_et (fun i σ H1 => ∃ (v2 v3 : Option V), σ = [some (.ref a), some (.ref p), v2, v3] ∧ Same H H1 ∧ firstBad (placeD qs ds.length) 0 ds = firstBad (placeD qs ds.length) i (ds.drop i))
          ⟨none, none, rfl, Same.refl H, rfl⟩ (fun i σ H1 _ ⟨v2, v3, _, s1, _⟩ => Same.seqT s1 h0) ?_ ?_
        · rintro i x σ H1 H2 hi ⟨v2, v3, rfl, s1, dg⟩ ⟨TT, x1, x2, rfl, hT, rfl, e1', e2'⟩
          have ex1 : x1 = .int (i : Nat) := (Option.some.inj e1').symm
          subst ex1
          obtain ⟨e, he, dqe⟩ := hx.get e2'
          have sA : Same H (upd H1 TT (.tup [.int (i : Nat), x2])) := s1.trans (Same.upd hT)
          have hid : i < ds.length := by omega
          have edr : ds.drop i = e :: ds.drop (i + 1) := by rw [List.drop_eq_getElem_cons hid]; rw [(List.getElem?_eq_some_iff.mp he).2]
          obtain ⟨cc, eb, g⟩ := Gd.untup gd
          have ge := g.at he
          have we : e.weight ≤ 100000 := by
            have := wA_at he
            have := g.wt
            omega
          refine ⟨TT, _, rfl, .inl (.inl upd_same), rfl, _, _, rfl, _, _, rfl, rfl, ?_⟩
          refine ⟨_, rfl, _, rfl, .ref p, ys.length, rfl, .inr ⟨ys, Same.seqT sA h0, rfl⟩, _, rfl, m, l, a, xs, qs, (ys.length : Int), x2, e, _, _, rfl, Same.seqT sA hs, hp.same sA, Dq.same sA e x2 dqe, ge.mono (Nat.le_refl _) we (Nat.le_refl _), fun H3 s3 => ⟨_, rfl, ?_⟩⟩
          rw [ly]
          rw [edr] at dg
          simp only [firstBad] at dg
          cases hb : placeD qs ds.length e with
          | true =>
            rw [if_pos hb] at dg
            exact ifF rfl ⟨_, _, rfl, sA.trans s3, dg⟩
          | false =>
            rw [if_neg (by rw [hb]; exact Bool.false_ne_true)] at dg
            refine ifT rfl ⟨_, rfl, mk_one fun d H' h1 h2 h3 => qe (.int (i : Nat)) ?_ d H' (Same.free (sA.trans s3) h1) ((sA.trans s3).trans h2) h3⟩
            rw [dg]; rfl
        · rintro σ H1 ⟨v2, v3, rfl, s1, dg⟩
          rw [List.drop_of_length_le (by omega)] at dg
          exact ⟨_, rfl, q (by rw [dg]; rfl) _ s1⟩
      · have : ¬ ((1 : Int) ≤ (ys.length : Int)) := of_decide_eq_false e1
        omega
  | _ => exact ifT rfl (ifT rfl (mk_one (qe _ rfl)))
/-! need_modes -/
def spNMo (K : PySem.W.Frag) (C : Addr) : Sp := fun vs H Q E => ∃ (m l a : Addr) (xs : List V) (v : V) (d : PyData), vs = [.ref a, v] ∧ SqT K H a xs ∧ Dq K H m l v d ∧
  (modesV xs.length d = none → ∀ H', Same H H' → Q v H') ∧ ∀ u, modesV xs.length d = some u → ∀ dx H', H dx = none → Same H H' → H' dx = some (.xd [("place", u)]) → E (.ref C) (some dx) H'
abbrev NNm : List Str := ["settings", "modes", "at", "mode"]
theorem scNmo : FnScope NNm ["settings", "modes"] (defScope sNModes) := ⟨rfl, rfl, rfl, by decide +kernel, rfl, by decide +kernel, by decide +kernel⟩
theorem ok_nmodes {f : Addr} {fd fdMo fdE : FuncData} {qual : Str} (F : Fun K "need_modes" "need_modes" sNModes f fd) (T : TxtR mg fI fN fS fA fG fNu fAs fPl fMo fNP fNM fNd aE aM) (W : WrT K aE aM) (gC : mg "BadModes" = some (.ref C)) (TE : ErrC K C fE)
    (FMo : Fun K "is_mode" "is_mode" sPMode fMo fdMo) (bMo : Binds K fdMo ["thing"] []) (FE : Fun K "__init__" qual sIniM fE fdE) (bE : Binds K fdE ["self", "place"] []) : FnOk P w K mg base (L2.CX P w) 3 f fd ["settings", "modes"] (spNMo K C) := by
  have GMo : FnOk P w K mg base CX0 1 fMo fdMo ["thing"] (spMode K) := ok_mode FMo T W
  have GE : FnOk P w K mg base CX0 1 fE fdE ["self", "place"] (spIni C) := ok_iniM FE TE
  refine F.okX scNmo (fun vs H Q E h => ?_) (fun cdv A outer s H vs Q E hr h => ?_)
  · obtain ⟨m, l, a, xs, v, d, rfl, _⟩ := h
    rfl
  obtain ⟨m, l, a, xs, v, d, rfl, hs, hd, q, qe⟩ := h
  have hr1 : Room 1 _ := hr.mono (by decide)
  refine ⟨_, pss_cons (ps_if (PW.pt (pw_or (pt_not (pt_val (pe_callB call_isi (by rfl) T.isi PyProof.Rows.boot_isinstance (pa_cons (pv 1) (pa_cons (pe_bltn (v := .ty "tuple") (u := .type "tuple") (by rfl) T.tuple (by decide +kernel) rfl) pa_nil)))))
      (pw_or1 (pt_cmpR op_ne (pe_callB call_len (by rfl) T.len PySem.boot_len (pa_cons (pv 1) pa_nil)) (pe_callB call_len (by rfl) T.len PySem.boot_len (pa_cons (pv 0) pa_nil)) (nomark _))))) (pss_one (ps_raise rfl (takes_of rfl rfl rfl rfl) (pmk_oex TE.ox TE.ini TE.ty GE hr bE .nil pass0 (by rfl) gC (pa_cons pe_non pa_nil)))) pss_nil)
    (pss_cons (ps_for (passes_of rfl) rfl (pi_et (by rfl) T.enumerate (pa_cons (pv 1) pa_nil)) (pg_tup rfl (pgs_cons (pg_name (i := 2) scNmo.nd rfl (by first | exact Or.inl rfl | exact Or.inr rfl)) (pgs_cons (pg_name (i := 3) scNmo.nd rfl (by first | exact Or.inl rfl | exact Or.inr rfl)) pgs_nil)))
      (pss_one (ps_if (pt_not (pt_val (pe_call GMo hr1 rfl T.gMo FMo.kp bMo .nil pass0 (pa_cons (pv 3) pa_nil))))
        (pss_one (ps_raise rfl (takes_of rfl rfl rfl rfl) (pmk_oex TE.ox TE.ini TE.ty GE hr bE .nil pass0 (by rfl) gC (pa_cons (pv 2) pa_nil)))) pss_nil)))
    (pss_one (ps_ret (pv 1)))), ?_⟩
  refine ⟨_, rfl, v, .ty "tuple", _, _, _, rfl, .ty _, hd.ty, isi_tup K d, _, rfl, ?_⟩
  cases d with
  | tuple ds =>
    cases hd with
    | tup h0 hx =>
      rename_i p ys
      refine ifF rfl ?_
      have ly := hx.len
      refine ⟨_, rfl, .ref p, ys.length, rfl, .inr ⟨ys, h0, rfl⟩, _, rfl, .ref a, xs.length, rfl, .inr ⟨xs, hs, rfl⟩, rfl, _, rfl, ?_⟩
      have ee : decide (V.int ((ys.length : Nat) : Int) = V.int ((xs.length : Nat) : Int)) = decide (ys.length = xs.length) := by
        rw [Bool.eq_iff_iff, decide_eq_true_eq, decide_eq_true_eq, V.int.injEq]; omega
      rw [ee]
      by_cases hl : ys.length = xs.length
      · have ed : modesV xs.length (.tuple ds) = (firstBad isMode 0 ds).map fun p => V.int (p : Nat) := if_pos (by omega)
        rw [ed] at q qe
        refine ifF (by rw [decide_eq_true hl]; rfl) ?_
        refine ⟨_, rfl, p, ys, rfl, h0, ?_⟩
        refine for_it walk_et (fun i σ H1 => ∃ (v2 v3 : Option V), σ = [some (.ref a), some (.ref p), v2, v3] ∧ Same H H1 ∧ firstBad isMode 0 ds = firstBad isMode i (ds.drop i))
          ⟨none, none, rfl, Same.refl H, rfl⟩ (fun i σ H1 _ ⟨v2, v3, _, s1, _⟩ => Same.seqT s1 h0) ?_ ?_
        · rintro i x σ H1 H2 hi ⟨v2, v3, rfl, s1, dg⟩ ⟨TT, x1, x2, rfl, hT, rfl, e1', e2'⟩
          have ex1 : x1 = .int (i : Nat) := (Option.some.inj e1').symm
          subst ex1
          obtain ⟨e, he, dqe⟩ := hx.get e2'
          have sA : Same H (upd H1 TT (.tup [.int (i : Nat), x2])) := s1.trans (Same.upd hT)
          have hid : i < ds.length := by omega
          have edr : ds.drop i = e :: ds.drop (i + 1) := by rw [List.drop_eq_getElem_cons hid]; rw [(List.getElem?_eq_some_iff.mp he).2]
          refine ⟨TT, _, rfl, .inl (.inl upd_same), rfl, _, _, rfl, _, _, rfl, rfl, ?_⟩
          refine ⟨_, rfl, m, l, x2, e, rfl, Dq.same sA e x2 dqe, _, rfl, ?_⟩
          rw [edr] at dg
          simp only [firstBad] at dg
          cases hb : isMode e with
          | true =>
            rw [if_pos hb] at dg
            exact ifF rfl ⟨_, _, rfl, sA, dg⟩
          | false =>
            rw [if_neg (by rw [hb]; exact Bool.false_ne_true)] at dg
            refine ifT rfl ⟨_, rfl, mk_one fun d H' h1 h2 h3 => qe (.int (i : Nat)) ?_ d H' (Same.free sA h1) (sA.trans h2) h3⟩
            rw [dg]; rfl
        · rintro σ H1 ⟨v2, v3, rfl, s1, dg⟩
          rw [List.drop_of_length_le (by omega)] at dg
          exact ⟨_, rfl, q (by rw [dg]; rfl) _ s1⟩
      · have ed : modesV xs.length (.tuple ds) = some .non := if_neg (by omega)
        exact ifT (by rw [decide_eq_false hl]; rfl) (mk_one (qe _ ed))
  | _ => exact ifT rfl (ifT rfl (mk_one (qe _ rfl)))
end
end Ms
namespace Ms
open PySem PySem.Spec PyProof.Rows L2 LamX
/-! ### data, where the heap is changed elsewhere -/
mutual
theorem Dq.gen {K : PySem.W.Frag} {m l m' l' : Addr} {H H' : Hp} (k1 : ∀ a xs, H a = some (.lst xs) → a ≠ m → a ≠ l → H' a = some (.lst xs) ∧ a ≠ m' ∧ a ≠ l') (k2 : ∀ a xs, SqT K H a xs → SqT K H' a xs)
    (k3 : ∀ a, H a = some (.dK []) → a ≠ m → a ≠ l → H' a = some (.dK []) ∧ a ≠ m' ∧ a ≠ l') : ∀ (d : PyData) (v : V), Dq K H m l v d → Dq K H' m' l' v d
  | .none, _, h => by cases h; exact .non
  | .bool b, _, h => by cases h; exact .bl b
  | .int i, _, h => by cases h; exact .int i
  | .str x, _, h => by cases h; exact .str x
  | .list ds, _, h => by
    cases h with
    | lst e n1 n2 t =>
      obtain ⟨e', n1', n2'⟩ := k1 _ _ e n1 n2
      exact .lst e' n1' n2' (DqAll.gen k1 k2 k3 ds _ t)
  | .tuple ds, _, h => by
    cases h with
    | tup e t => exact .tup (k2 _ _ e) (DqAll.gen k1 k2 k3 ds _ t)
  | .dict _, _, h => by
    cases h with
    | dct e n1 n2 =>
      obtain ⟨e', n1', n2'⟩ := k3 _ e n1 n2
      exact .dct e' n1' n2'
theorem DqAll.gen {K : PySem.W.Frag} {m l m' l' : Addr} {H H' : Hp} (k1 : ∀ a xs, H a = some (.lst xs) → a ≠ m → a ≠ l → H' a = some (.lst xs) ∧ a ≠ m' ∧ a ≠ l') (k2 : ∀ a xs, SqT K H a xs → SqT K H' a xs)
    (k3 : ∀ a, H a = some (.dK []) → a ≠ m → a ≠ l → H' a = some (.dK []) ∧ a ≠ m' ∧ a ≠ l') : ∀ (ds : List PyData) (vs : List V), DqAll K H m l vs ds → DqAll K H' m' l' vs ds
  | [], _, h => by cases h; exact .nil
  | d :: ds, _, h => by
    cases h with
    | cons h1 h2 => exact .cons (Dq.gen k1 k2 k3 d _ h1) (DqAll.gen k1 k2 k3 ds _ h2)
end
section
variable {K : PySem.W.Frag} {H H' : Hp} {m l : Addr}
theorem ExtN.seqT (e : ExtN H H') {a : Addr} {xs : List V} (h : SqT K H a xs) : SqT K H' a xs := by
  rcases h with (h | ⟨o, h⟩) | h
  · exact .inl (.inl (e _ _ h fun _ z => nomatch z))
  · exact .inl (.inr ⟨o, e _ _ h fun _ z => nomatch z⟩)
  · exact .inr h
theorem Dq.ext (e : ExtN H H') {v : V} {d : PyData} (h : Dq K H m l v d) : Dq K H' m l v d :=
  Dq.gen (fun a xs q n1 n2 => ⟨e _ _ q (fun _ z => nomatch z), n1, n2⟩) (fun a xs q => ExtN.seqT e q) (fun a q n1 n2 => ⟨e _ _ q (fun _ z => nomatch z), n1, n2⟩) d v h
theorem Mch.ext {n : Nat} (s : ExtN H H') (M : Mch H m l n) : Mch H' m l n := by
  obtain ⟨c, cs, ls, z, h1, h2, h3, h⟩ := M.ex
  exact ⟨c, cs, ls, z, s _ _ h1 (fun _ z => nomatch z), s _ _ h2 (fun _ z => nomatch z), s _ _ h3 (fun _ z => nomatch z), h⟩
theorem Same.toN (s : Same H H') : ExtN H H' := ExtN.of s
theorem Tabs.same {T : List (Addr × Str)} (t : Tabs T H) (s : Same H H') : Tabs T H' := t.ext s
end
/-! ### a list that is locked while its next item is made -/
section
variable {K : PySem.W.Frag} {H H' : Hp} {m l L : Addr} {n : Nat} {od : Obj} {u o : HO}
theorem upd_frz (h : H L = some (.frz od u)) {b : Addr} {w : HO} (k : ∀ od u, w ≠ .frz od u) (e : H b = some w) : upd H L o b = some w := by
  have nb : b ≠ L := fun z => by
    rw [z, h] at e
    exact k _ _ (Option.some.inj e).symm
  rw [upd_ne nb]; exact e
theorem Mch.unlock (h : H L = some (.frz od u)) (M : Mch H m l n) : Mch (upd H L o) m l n := by
  obtain ⟨c, cs, ls, z, h1, h2, h3, r⟩ := M.ex
  exact ⟨c, cs, ls, z, upd_frz h (fun _ _ z => nomatch z) h1, upd_frz h (fun _ _ z => nomatch z) h2, upd_frz h (fun _ _ z => nomatch z) h3, r⟩
theorem Tabs.unlock {T : List (Addr × Str)} (h : H L = some (.frz od u)) (t : Tabs T H) : Tabs T (upd H L o) := fun p hp => by
  obtain ⟨ps, h1, h2, h3⟩ := t p hp
  refine ⟨ps, upd_frz h (fun _ _ z => nomatch z) h1, h2, fun pos cv hc => ?_⟩
  obtain ⟨c, e1, e2⟩ := h3 pos cv hc
  refine ⟨c, e1, upd_frz h (fun _ _ z => ?_) e2⟩
  unfold CodeO at z
  cases z
theorem Dq.unlock (h : H L = some (.frz od (.lst u'))) {v : V} {d : PyData} (hd : Dq K H m l v d) : Dq K (upd H L o) m l v d := by
  refine Dq.gen (fun a xs q n1 n2 => ⟨upd_frz h (fun _ _ z => nomatch z) q, n1, n2⟩) (fun a xs q => ?_) (fun a q n1 n2 => ⟨upd_frz h (fun _ _ z => nomatch z) q, n1, n2⟩) d v hd
  rcases q with (q | ⟨o', q⟩) | q
  · exact .inl (.inl (upd_frz h (fun _ _ z => nomatch z) q))
  · have q' : H a = some (.frz o' (.tup xs)) := q
    have nb : a ≠ L := fun z => by
      rw [z, h] at q'
      cases q'
    have q2 : upd H L o a = some (.frz o' (.tup xs)) := by rw [upd_ne nb]; exact q'
    exact .inl (.inr ⟨o', q2⟩)
  · exact .inr q
theorem Tabs.fr {T : List (Addr × Str)} {l' : Addr} (M : Mch H m l n) (f : Fr m l l' H H') (t : Tabs T H) : Tabs T H' := fun p hp => by
  obtain ⟨ps, h1, h2, h3⟩ := t p hp
  obtain ⟨c0, cs, ls, z, e1, e2, e3, _⟩ := M.ex
  refine ⟨ps, f.keep _ _ h1 (ne_of h1 e1 (by intro z; cases z)) (ne_of h1 e3 (by intro z; cases z)), h2, fun pos cv hc => ?_⟩
  obtain ⟨c, q1, q2⟩ := h3 pos cv hc
  exact ⟨c, q1, f.keep _ _ q2 (ne_of q2 e1 (by intro z; unfold CodeO at z; cases z)) (ne_of q2 e3 (by intro z; unfold CodeO at z; cases z))⟩
end
end Ms
namespace Ms
open PySem PySem.Spec PyProof.Rows L2
/-! ### Request.__init__ -/
/-- all that was there stays, but at one place -/
def SameX (x : Addr) (H H' : Hp) : Prop := ∀ b o, b ≠ x → H b = some o → H' b = some o
theorem SameX.refl (x : Addr) (H : Hp) : SameX x H H := fun _ _ _ e => e
theorem SameX.thenS {x : Addr} {H H' H'' : Hp} (k : SameX x H H') (s : Same H' H'') : SameX x H H'' := fun b o n e => s b o (k b o n e)
theorem SameX.thenU {x : Addr} {H H' : Hp} {o : HO} (k : SameX x H H') : SameX x H (upd H' x o) := fun b o n e => by rw [upd_ne n]; exact k b o n e
theorem SameX.seqT {K : PySem.W.Frag} {x C dx : Addr} {fs : List (Str × V)} {H H' : Hp} (k : SameX x H H') (hx : H x = some (.ins C dx fs)) {a : Addr} {xs : List V} (h : SqT K H a xs) : SqT K H' a xs := by
  rcases h with (h | ⟨o, h⟩) | h
  · exact .inl (.inl (k _ _ (fun e => by subst e; rw [hx] at h; cases h) h))
  · exact .inl (.inr ⟨o, k _ _ (fun e => by subst e; rw [hx] at h; cases h) h⟩)
  · exact .inr h
theorem SameX.dq {K : PySem.W.Frag} {x C dx m l : Addr} {fs : List (Str × V)} {H H' : Hp} (k : SameX x H H') (hx : H x = some (.ins C dx fs)) (d : PyData) (v : V) (h : Dq K H m l v d) : Dq K H' m l v d :=
  Dq.gen (fun a xs e n1 n2 => ⟨k _ _ (fun z => by subst z; rw [hx] at e; cases e) e, n1, n2⟩) (fun a xs e => k.seqT hx e) (fun a e n1 n2 => ⟨k _ _ (fun z => by subst z; rw [hx] at e; cases e) e, n1, n2⟩) d v h
theorem SameX.free {x : Addr} {H H' : Hp} (k : SameX x H H') {e : Addr} (hx : H' x ≠ none) (h : H' e = none) : H e = none := by
  cases hh : H e with
  | none => rfl
  | some o =>
    by_cases z : e = x
    · subst z; exact absurd h hx
    · rw [k e o z hh] at h; cases h
theorem SameX.same {x : Addr} {H H' : Hp} (k : SameX x H H') (h : H x = none) : Same H H' := fun b o e => k b o (ne_of_none e h) e
/-- settings that are let by are pairs -/
theorem dueGo_pr : ∀ (ds : List PyData) (p : Nat) (seen : List Str) (many r : Int), dueGo p seen many ds = .inr r → ∃ qs, ds = prD qs ∧ ∀ q ∈ qs, 1 ≤ q.2 ∧ q.2 ≤ 3
  | [], _, _, _, _, _ => ⟨[], rfl, fun q h => nomatch h⟩
  | d :: ds, p, seen, many, r, h => by
    simp only [dueGo] at h
    cases eo : oneD d with
    | none => rw [eo] at h; cases h
    | some zc =>
      obtain ⟨z, c⟩ := zc
      rw [eo] at h
      simp only at h
      by_cases hz : z ∈ seen
      · rw [if_pos hz] at h; cases h
      · rw [if_neg hz] at h
        obtain ⟨qs, e, bq⟩ := dueGo_pr ds _ _ _ _ h
        have key : d = .tuple [.str z, .int c] ∧ 1 ≤ c ∧ c ≤ 3 := by
          unfold oneD at eo
          split at eo
          · rename_i z' c'
            by_cases hh : (isName (.str z') && isWhole (.int c') 1 3) = true
            · rw [if_pos hh] at eo
              cases eo
              refine ⟨rfl, ?_⟩
              have h2 := (Bool.and_eq_true _ _ ▸ hh : _ ∧ _).2
              have h3 := (Bool.and_eq_true _ _ ▸ h2 : _ ∧ _)
              exact ⟨of_decide_eq_true h3.1, of_decide_eq_true h3.2⟩
            · rw [if_neg hh] at eo; cases eo
          · cases eo
        refine ⟨(z, c) :: qs, by rw [key.1, e]; rfl, fun q hq => ?_⟩
        rcases List.mem_cons.mp hq with rfl | hq
        · exact key.2
        · exact bq q hq
theorem needV_pr {d : PyData} (h : needV d = none) : ∃ qs, d = .tuple (prD qs) ∧ 1 ≤ qs.length ∧ qs.length ≤ 3 := by
  cases d with
  | tuple ds =>
    have h' : (if 1 ≤ ds.length ∧ ds.length ≤ 3 then (match dueGo 0 [] 1 ds with | .inl p => some (V.int (p : Nat)) | .inr many => if many ≤ 12 then none else some (.str "many")) else some V.non) = none := h
    by_cases hl : 1 ≤ ds.length ∧ ds.length ≤ 3
    · rw [if_pos hl] at h'
      cases eg : dueGo 0 [] 1 ds with
      | inl p => rw [eg] at h'; cases h'
      | inr many =>
        obtain ⟨qs, e, _⟩ := dueGo_pr ds _ _ _ _ eg
        have : ds.length = qs.length := by rw [e]; exact List.length_map ..
        exact ⟨qs, by rw [e], by omega, by omega⟩
    · rw [if_neg hl] at h'; cases h'
  | _ => cases h
theorem prD_trs {K : PySem.W.Frag} {H : Hp} {m l : Addr} : ∀ (qs : List (Str × Int)) (vs : List V), DqAll K H m l vs (prD qs) → PrTs K H vs qs
  | [], _, h => by cases h; exact .nil
  | q :: qs, _, h => by
    cases h with
    | cons h1 h2 =>
      refine .cons ?_ (prD_trs qs _ h2)
      cases h1 with
      | tup e t =>
        cases t with
        | cons t1 t2 =>
          cases t1
          cases t2 with
          | cons t3 t4 =>
            cases t3
            cases t4
            exact ⟨_, rfl, e⟩
/-- the words, "live" of all where none are given -/
def wordsD (k : Nat) (d : PyData) : PyData := match d with | .none => .tuple (List.replicate k (.str "live")) | d => d
theorem live_dq {K : PySem.W.Frag} {H : Hp} {m l : Addr} : ∀ (k : Nat), DqAll K H m l (List.replicate k (V.str "live")) (List.replicate k (.str "live"))
  | 0 => .nil
  | k + 1 => .cons (.str _) (live_dq k)
theorem live_flat (k : Nat) : (List.replicate k [V.str "live"]).flatten = List.replicate k (V.str "live") := by
  induction k with
  | zero => rfl
  | succ k ih => rw [List.replicate_succ, List.flatten_cons, ih]; rfl
section
variable {P : Program} {w : World} {K : PySem.W.Frag} {mg : Str → Option Value} {base : Heap} {fI fN fS fA fG fNu fAs fPl fMo fNP fNM fNd aE aM C CS CP CM fES fEP fEM : Addr}
structure ReqC (K : PySem.W.Frag) (C : Addr) : Prop where
  cl : Cls K C
  nS : NoAttr K C "settings"
  nP : NoAttr K C "places"
  nM : NoAttr K C "modes"
def reqF (v1 v2 v3 : V) : List (Str × V) := [("settings", v1), ("places", v2), ("modes", v3)]
def spReq (K : PySem.W.Frag) (C CS CP CM : Addr) : Sp := fun vs H Q E => ∃ (m l x dx : Addr) (v1 v2 v3 : V) (d1 d2 d3 : PyData) (B1 b1 B2 b2 : Nat), vs = [.ref x, v1, v2, v3] ∧ H x = some (.ins C dx []) ∧ Dq K H m l v1 d1 ∧ Gd B1 100000 b1 d1 ∧ Dq K H m l v2 d2 ∧ Gd B2 100000 b2 d2 ∧ Dq K H m l v3 d3 ∧
  (∀ u, needV d1 = some u → ∀ e H', H e = none → SameX x H H' → H' e = some (.xd [("place", u)]) → E (.ref CS) (some e) H') ∧
  (needV d1 = none → ∀ qs, d1 = .tuple (prD qs) → (∀ u, placesV qs d2 = some u → ∀ e H', H e = none → SameX x H H' → H' e = some (.xd [("place", u)]) → E (.ref CP) (some e) H') ∧
    (placesV qs d2 = none → (∀ u, modesV qs.length (wordsD qs.length d3) = some u → ∀ e H', H e = none → SameX x H H' → H' e = some (.xd [("place", u)]) → E (.ref CM) (some e) H') ∧
      (modesV qs.length (wordsD qs.length d3) = none → ∀ H' v3', SameX x H H' → H' x = some (.ins C dx (reqF v1 v2 v3')) → Dq K H' m l v3' (wordsD qs.length d3) → Q .non H')))
abbrev NNr : List Str := ["self", "settings", "places", "modes"]
theorem scRi : FnScope NNr ["self", "settings", "places", "modes"] (defScope sReqIni) := ⟨rfl, rfl, rfl, by decide +kernel, rfl, by decide +kernel, by decide +kernel⟩
theorem ok_reqini {f : Addr} {fd fdI fdN fdS fdA fdG fdNu fdAs fdPl fdMo fdNP fdNM fdNd fdES fdEP fdEM : FuncData} {q1 q2 q3 qual : Str} (F : FunD K "__init__" qual (defArgs sReqIni) (defBody sReqIni) (defScope sReqIni) [.non] [] f fd) (T : TxtR mg fI fN fS fA fG fNu fAs fPl fMo fNP fNM fNd aE aM) (W : WrT K aE aM) (RC : ReqC K C)
    (gS : mg "BadSettings" = some (.ref CS)) (TS : ErrC K CS fES) (gP : mg "BadPlaces" = some (.ref CP)) (TP : ErrC K CP fEP) (gM : mg "BadModes" = some (.ref CM)) (TM : ErrC K CM fEM)
    (FES : Fun K "__init__" q1 sIni fES fdES) (bES : Binds K fdES ["self", "place"] []) (FEP : Fun K "__init__" q2 sIniP fEP fdEP) (bEP : Binds K fdEP ["self", "place"] []) (FEM : Fun K "__init__" q3 sIniM fEM fdEM) (bEM : Binds K fdEM ["self", "place"] [])
    (FI : Fun K "is_int" "is_int" sPInt fI fdI) (bI : Binds K fdI ["thing"] []) (FN : Fun K "is_name" "is_name" sPName fN fdN) (bN : Binds K fdN ["thing"] []) (FS : Fun K "is_setting" "is_setting" sPSet fS fdS) (bS : Binds K fdS ["thing"] [])
    (FA : Fun K "names_of" "names_of" sPNames fA fdA) (bA : Binds K fdA ["settings"] []) (FG : Fun K "grid_of" "grid_of" sPGrid fG fdG) (bG : Binds K fdG ["settings"] [])
    (FNd : Fun K "need_settings" "need_settings" sNeed fNd fdNd) (bNd : Binds K fdNd ["thing"] [])
    (FNu : Fun K "is_number" "is_number" sPNum fNu fdNu) (bNu : Binds K fdNu ["many", "thing"] []) (FAs : Fun K "is_ask" "is_ask" sPAsk fAs fdAs) (bAs : Binds K fdAs ["settings", "many", "setting", "nexts"] [])
    (FPl : Fun K "is_place" "is_place" sPPlace fPl fdPl) (bPl : Binds K fdPl ["settings", "many", "thing"] []) (FMo : Fun K "is_mode" "is_mode" sPMode fMo fdMo) (bMo : Binds K fdMo ["thing"] [])
    (FNP : Fun K "need_places" "need_places" sNPlaces fNP fdNP) (bNP : Binds K fdNP ["settings", "places"] []) (FNM : Fun K "need_modes" "need_modes" sNModes fNM fdNM) (bNM : Binds K fdNM ["settings", "modes"] []) :
    FnOk P w K mg base (L2.CX P w) 6 f fd ["self", "settings", "places", "modes"] (spReq K C CS CP CM) := by
  have GNd : FnOk P w K mg base (L2.CX P w) 3 fNd fdNd ["thing"] (spNeed K CS) := ok_need FNd T.toTxtP gS TS FI bI FN bN FS bS FA bA FG bG FES bES
  have GNP : FnOk P w K mg base (L2.CX P w) 5 fNP fdNP ["settings", "places"] (spNPl K CP) := ok_nplaces FNP T W gP TP FI bI FN bN FNu bNu FAs bAs FPl bPl FEP bEP
  have GNM : FnOk P w K mg base (L2.CX P w) 3 fNM fdNM ["settings", "modes"] (spNMo K CM) := ok_nmodes FNM T W gM TM FMo bMo FEM bEM
  refine FunD.ok F scRi (fun vs H Q E h => ?_) (fun cdv A outer s H vs Q E hr h => ?_)
  · obtain ⟨m, l, x, dx, v1, v2, v3, d1, d2, d3, B1, b1, B2, b2, rfl, _⟩ := h
    rfl
  obtain ⟨m, l, x, dx, v1, v2, v3, d1, d2, d3, B1, b1, B2, b2, rfl, hx, hd1, gd1, hd2, gd2, hd3, qe, qr⟩ := h
  have hr3 : Room 3 _ := hr.mono (by decide)
  refine ⟨_, pss_cons (ps_fld (pv 0) (pe_call GNd hr3 rfl T.gNd FNd.kp bNd .nil (passes_call (takes_of rfl rfl rfl rfl) fun _ _ _ _ h => h) (pa_cons (pv 1) pa_nil)) rfl)
    (pss_cons (ps_fld (pv 0) (pe_call GNP hr rfl T.gNP FNP.kp bNP .nil (passes_call (takes_of rfl rfl rfl rfl) fun _ _ _ _ h => h) (pa_cons (pv 1) (pa_cons (pv 2) pa_nil))) rfl)
    (pss_cons (ps_if (pt_cmpR op_isN (pv 3) pe_non (nomark _)) (pss_one (ps_set (i := 3) scRi.nd rfl (by first | exact Or.inl rfl | exact Or.inr rfl) (pe_op op_rep1 (pe_tup (pa_cons pe_str pa_nil)) (pe_callB call_len (by rfl) T.len PySem.boot_len (pa_cons (pv 1) pa_nil))))) pss_nil)
    (pss_one (ps_fld (pv 0) (pe_call GNM hr3 rfl T.gNM FNM.kp bNM .nil (passes_call (takes_of rfl rfl rfl rfl) fun _ _ _ _ h => h) (pa_cons (pv 1) (pa_cons (pv 3) pa_nil))) rfl)))), ?_⟩
  refine ⟨_, rfl, m, l, v1, d1, B1, b1, rfl, hd1, gd1, fun hn H1 s1 => ?_, fun u hu e H' h1 h2 h3 => qe u hu e H' h1 (fun b o _ e => h2 b o e) h3⟩
  obtain ⟨qs, rfl, l1, l3⟩ := needV_pr hn
  obtain ⟨qp, q⟩ := qr hn qs rfl
  have x1 : H1 x = some (.ins C dx []) := s1 _ _ hx
  refine ⟨_, rfl, x, C, dx, [], rfl, x1, RC.cl, RC.nS, (by show 0 < 1000; decide), ?_⟩
  have k1 : SameX x H (upd H1 x (.ins C dx (putF "settings" v1 []))) := SameX.thenU (fun b o _ e => s1 b o e)
  obtain ⟨a, xs, rfl, hs, hxs⟩ : ∃ a xs, v1 = .ref a ∧ SqT K H a xs ∧ DqAll K H m l xs (prD qs) := by
    cases hd1 with
    | tup e t => exact ⟨_, _, rfl, e, t⟩
  have lx : xs.length = qs.length := by have := hxs.len; rw [this]; exact List.length_map ..
  generalize eH1 : upd H1 x (.ins C dx (putF "settings" (V.ref a) [])) = G1 at k1 ⊢
  have xg : G1 x = some (.ins C dx (putF "settings" (V.ref a) [])) := by rw [← eH1]; exact upd_same
  have hxs1 : DqAll K G1 m l xs (prD qs) := by
    have := k1.dq hx (.tuple (prD qs)) (.ref a) (.tup hs hxs)
    exact DqAll.gen (fun a xs e n1 n2 => ⟨k1 _ _ (fun z => by subst z; rw [hx] at e; cases e) e, n1, n2⟩) (fun a xs e => k1.seqT hx e) (fun a e n1 n2 => ⟨k1 _ _ (fun z => by subst z; rw [hx] at e; cases e) e, n1, n2⟩) _ _ hxs
  have free1 : ∀ {G : Hp}, SameX x H G → G x ≠ none → ∀ {e}, G e = none → H e = none := fun k n _ h => k.free n h
  refine ⟨_, rfl, _, rfl, m, l, a, xs, qs, v2, d2, B2, b2, rfl, k1.seqT hx hs, prD_trs qs xs hxs1, k1.dq hx d2 v2 hd2, gd2, fun hp H2 s2 => ?_, fun u hu e H' h1 h2 h3 => qp u hu e H' (free1 k1 (by rw [xg]; exact fun z => nomatch z) h1) (k1.thenS h2) h3⟩
  obtain ⟨qm, q⟩ := q hp
  have x2 : H2 x = _ := s2 _ _ xg
  refine ⟨_, rfl, x, C, dx, _, rfl, x2, RC.cl, RC.nP, (by show 1 < 1000; decide), ?_⟩
  have k2 : SameX x H (upd H2 x (.ins C dx (putF "places" v2 (putF "settings" (V.ref a) [])))) := SameX.thenU (k1.thenS s2)
  generalize eH2 : upd H2 x (.ins C dx (putF "places" v2 (putF "settings" (V.ref a) []))) = G2 at k2 ⊢
  have xg2 : G2 x = some (.ins C dx (putF "places" v2 (putF "settings" (V.ref a) []))) := by rw [← eH2]; exact upd_same
  have fin : ∀ (v3' : V) (G3 : Hp), Same G2 G3 → Dq K G3 m l v3' (wordsD qs.length d3) → ∃ (m l a' : Addr) (xs : List V) (v : V) (d : PyData), [V.ref a, v3'] = [.ref a', v] ∧ SqT K G3 a' xs ∧ Dq K G3 m l v d ∧
      (modesV xs.length d = none → ∀ H', Same G3 H' → ∃ z, [some (V.ref x), some (V.ref a), some v2, some v3'][0]? = some (some z) ∧ ∃ p C dx fs, z = V.ref p ∧ H' p = some (.ins C dx fs) ∧ Cls K C ∧ NoAttr K C "modes" ∧ fs.length < 1000 ∧ Q .non (upd H' p (.ins C dx (putF "modes" v fs)))) ∧ ∀ u, modesV xs.length d = some u → ∀ dx H', G3 dx = none → Same G3 H' → H' dx = some (.xd [("place", u)]) → E (.ref CM) (some dx) H' := by
    intro v3' G3 s3 h3
    have k3 := k2.thenS s3
    have x3 : G3 x = _ := s3 _ _ xg2
    refine ⟨m, l, a, xs, v3', wordsD qs.length d3, rfl, k3.seqT hx hs, h3, fun hm H' s' => ?_, fun u hu e H' h1 h2 h3 => ?_⟩
    · rw [lx] at hm
      have x4 := s' _ _ x3
      refine ⟨_, rfl, x, C, dx, _, rfl, x4, RC.cl, RC.nM, (by show 2 < 1000; decide), q hm _ v3' ((k3.thenS s').thenU) upd_same ?_⟩
      exact Dq.gen (fun a xs e n1 n2 => ⟨by rw [upd_ne (fun z => by subst z; rw [x4] at e; cases e)]; exact e, n1, n2⟩) (fun a xs e => SameX.seqT (fun b o n e => by rw [upd_ne n]; exact e) x4 e) (fun a e n1 n2 => ⟨by rw [upd_ne (fun z => by subst z; rw [x4] at e; cases e)]; exact e, n1, n2⟩) _ _ (Dq.same s' _ _ h3)
    · rw [lx] at hu
      exact qm u hu e H' (free1 k3 (by rw [x3]; exact fun z => nomatch z) h1) (k3.thenS h2) h3
  refine ⟨_, rfl, rfl, ?_⟩
  cases d3 with
  | none =>
    cases hd3
    refine ⟨_, rfl, ifT rfl ?_⟩
    refine ⟨(by decide), fun p hp' => ?_⟩
    refine ⟨_, rfl, .ref a, xs.length, rfl, .inr ⟨xs, SameX.seqT (SameX.thenS k2 (Same.upd hp')) hx hs, rfl⟩, p, (xs.length : Int), [V.str "live"], rfl, rfl, .inl (.inl upd_same), (fun z => nomatch z), by omega, by omega, (by show 1 ≤ 1000; decide), fun e1 => ?_, fun e2 p2 hp2 => ?_⟩
    · refine ⟨_, rfl, _, rfl, fin _ _ (Same.upd hp') ?_⟩
      have : qs.length = 1 := by omega
      simp only [wordsD, this]
      exact .tup (.inl (.inl upd_same)) (.cons (.str _) .nil)
    · refine ⟨_, rfl, _, rfl, fin _ _ ((Same.upd hp').trans (Same.upd hp2)) ?_⟩
      have e3 : (xs.length : Int).toNat = qs.length := by omega
      rw [e3, live_flat]
      exact .tup (.inl (.inl upd_same)) (live_dq _)
  | _ =>
    cases hd3 <;> refine ⟨_, rfl, ifF rfl ⟨_, rfl, _, rfl, ?_⟩⟩ <;> refine fin _ _ (Same.refl _) (k2.dq hx _ _ ?_) <;> first | exact .bl _ | exact .int _ | exact .str _ | exact .lst (by assumption) (by assumption) (by assumption) (by assumption) | exact .tup (by assumption) (by assumption) | exact .dct (by assumption) (by assumption) (by assumption)
end
end Ms
namespace Ms
open PySem PySem.Spec PyProof.Rows L2
/-- what a drawn place is -/
theorem do_good {z : Str} {r : Int} (hz : sOk 16 z) (h0 : 0 ≤ r) (h1 : r < 16) : Gd big 460 2 (.tuple [.str "do", .str z, .int r]) := by
  have g1 : Gd big 16 0 (.str "do") := Gd.str ⟨by decide, by decide⟩
  have g2 : Gd big 16 0 (.str z) := Gd.str hz
  have g3 : Gd big 104 0 (.int r) := Gd.int (by show r.natAbs ≤ 10 ^ 30; omega) (by decide)
  exact (Gd.tup ((Gl'.one g1).app ((Gl'.one g2).app (Gl'.one g3)))).mono (Nat.le_refl _) (by omega) (by omega)
theorem end_good : Gd big 460 2 (.tuple [.str "end"]) := (Gd.tup (Gl'.one (Gd.str (a := 16) ⟨by decide, by decide⟩))).mono (Nat.le_refl _) (by omega) (by omega)
theorem ints_good : ∀ ns : List Int, (∀ x ∈ ns, 0 ≤ x ∧ x < 16) → Gl' big (105 * ns.length) 0 (ns.map PyData.int)
  | [], _ => ⟨(fun d h => nomatch h), Nat.le_refl _, (fun d h => nomatch h)⟩
  | x :: ns, h => by
    obtain ⟨h0, h1⟩ := h x (List.mem_cons_self ..)
    have g := (Gl'.one (Gd.int (B := big) (i := x) (by show x.natAbs ≤ 10 ^ 30; omega) (by decide))).app (ints_good ns fun y hy => h y (List.mem_cons_of_mem _ hy))
    exact g.mono (Nat.le_refl _) (by simp only [List.length_cons]; omega) (Nat.le_refl _)
theorem ask_good {z : Str} {ns : List Int} (hz : sOk 16 z) (hn : ∀ x ∈ ns, 0 ≤ x ∧ x < 16) (hl : ns.length ≤ 4) : Gd big 460 2 (.tuple [.str "ask", .str z, .tuple (ns.map .int)]) := by
  have g1 : Gd big 16 1 (.str "ask") := (Gd.str (a := 16) ⟨by decide, by decide⟩).mono (Nat.le_refl _) (Nat.le_refl _) (by omega)
  have g2 : Gd big 16 1 (.str z) := (Gd.str hz).mono (Nat.le_refl _) (Nat.le_refl _) (by omega)
  have g3 := Gd.tup (ints_good ns hn)
  exact (Gd.tup ((Gl'.one g1).app ((Gl'.one g2).app (Gl'.one g3)))).mono (Nat.le_refl _) (by omega) (by omega)
theorem ints_dq {K : PySem.W.Frag} {H : Hp} {m l : Addr} : ∀ ns : List Int, DqAll K H m l (ns.map V.int) (ns.map PyData.int)
  | [] => .nil
  | _ :: ns => .cons (.int _) (ints_dq ns)
/-- what a drawn place is: an end, a deed, an ask -/
def plD (qs : List (Str × Int)) (many : Int) (d : PyData) : Prop := d = .tuple [.str "end"] ∨ (∃ (z : Str) (r : Int), d = .tuple [.str "do", .str z, .int r] ∧ nmOk z ∧ 0 ≤ r ∧ r < many) ∨
  ∃ q ∈ qs, ∃ ns : List Int, d = .tuple [.str "ask", .str q.1, .tuple (ns.map .int)] ∧ (ns.length : Int) = q.2 + 1 ∧ ∀ x ∈ ns, 0 ≤ x ∧ x < many
def PlG (qs : List (Str × Int)) (many : Int) (d : PyData) : Prop := Gd big 460 2 d ∧ plD qs many d
end Ms
namespace Ms
open PySem PySem.Spec PyProof.Rows L2
/-! ### a request of drawn things is made -/
theorem nextsD_ok {n k : Int} {ns : List Int} (hl : (ns.length : Int) = k + 1) (hx : ∀ x ∈ ns, 0 ≤ x ∧ x < n) : nextsD n k (.tuple (ns.map .int)) = true := by
  show (decide (((ns.map PyData.int).length : Int) = k + 1) && (ns.map PyData.int).all fun e => isWhole e 0 (n - 1)) = true
  rw [List.length_map, decide_eq_true hl, Bool.true_and, List.all_eq_true]
  intro e he
  obtain ⟨x, h, rfl⟩ := List.mem_map.mp he
  have := hx x h
  show (decide (0 ≤ x) && decide (x ≤ n - 1)) = true
  rw [decide_eq_true this.1, decide_eq_true (show x ≤ n - 1 by omega)]; rfl
theorem askD_ok {n : Int} {q : Str × Int} {d2 : PyData} : ∀ {qs : List (Str × Int)}, q ∈ qs → (qs.map (·.1)).Nodup → nextsD n q.2 d2 = true → askD n (.str q.1) d2 qs = true
  | [], h, _, _ => nomatch h
  | q' :: qs, h, hn, hx => by
    unfold askD
    by_cases e : q.1 = q'.1
    · rw [if_pos (by show (q.1 == q'.1) = true; rw [e]; exact beq_self_eq_true _)]
      rcases List.mem_cons.mp h with rfl | h
      · exact hx
      · rw [List.map_cons, List.nodup_cons] at hn
        exact absurd (by rw [← e]; exact List.mem_map_of_mem h) hn.1
    · rw [if_neg (by show ¬ (q.1 == q'.1) = true; simpa using e)]
      rcases List.mem_cons.mp h with rfl | h
      · exact absurd rfl e
      · rw [List.map_cons, List.nodup_cons] at hn
        exact askD_ok h hn.2 hx
theorem placeD_ok {qs : List (Str × Int)} {many : Int} {d : PyData} (hn : (qs.map (·.1)).Nodup) (p : plD qs many d) : placeD qs many d = true := by
  rcases p with rfl | ⟨z, r, rfl, hz, h0, h1⟩ | ⟨q, hq, ns, rfl, hl, hx⟩
  · rfl
  · have e : placeD qs many (.tuple [.str "do", .str z, .int r]) = (isName (.str z) && isWhole (.int r) 0 (many - 1)) := by
      unfold placeD
      exact if_pos ⟨rfl, (by decide : isTxt (.str "do") "do" = true)⟩
    rw [e, nm_name hz]
    show (true && (decide (0 ≤ r) && decide (r ≤ many - 1))) = true
    rw [decide_eq_true h0, decide_eq_true (show r ≤ many - 1 by omega)]; rfl
  · have e : placeD qs many (.tuple [.str "ask", .str q.1, .tuple (ns.map .int)]) = askD many (.str q.1) (.tuple (ns.map .int)) qs := by
      unfold placeD
      exact (if_neg (fun h => absurd (show isTxt (.str "ask") "do" = true from h.2) (by decide))).trans (if_pos ⟨rfl, (by decide : isTxt (.str "ask") "ask" = true)⟩)
    rw [e]
    exact askD_ok hq hn (nextsD_ok hl hx)
theorem firstBad_no {f : PyData → Bool} : ∀ (ds : List PyData) (p : Nat), (∀ d ∈ ds, f d = true) → firstBad f p ds = none
  | [], _, _ => rfl
  | d :: ds, p, h => by
    unfold firstBad
    rw [if_pos (h d (List.mem_cons_self ..))]
    exact firstBad_no ds _ fun x hx => h x (List.mem_cons_of_mem _ hx)
theorem places_no {qs : List (Str × Int)} {ds : List PyData} (hn : (qs.map (·.1)).Nodup) (h1 : 1 ≤ ds.length) (h16 : ds.length ≤ 16) (hp : ∀ d ∈ ds, plD qs (ds.length : Int) d) : placesV qs (.tuple ds) = none := by
  show (if 1 ≤ ds.length ∧ ds.length ≤ 16 then (firstBad (placeD qs ds.length) 0 ds).map fun p => V.int (p : Nat) else some .non) = none
  rw [if_pos ⟨h1, h16⟩, firstBad_no ds 0 fun d hd => placeD_ok hn (hp d hd)]; rfl
theorem modes_no {k : Nat} {zs : List Str} (hl : zs.length = k) (hz : ∀ z ∈ zs, z ∈ (["live", "met", "begin"] : List Str)) : modesV k (.tuple (zs.map .str)) = none := by
  show (if (zs.map PyData.str).length = k then (firstBad isMode 0 (zs.map PyData.str)).map fun p => V.int (p : Nat) else some .non) = none
  rw [List.length_map, if_pos hl, firstBad_no _ 0 fun d hd => ?_]
  · rfl
  · obtain ⟨z, h, rfl⟩ := List.mem_map.mp hd
    exact decide_eq_true (hz z h)
theorem prD_inj' : ∀ {qs ys : List (Str × Int)}, prD qs = prD ys → qs = ys
  | [], [], _ => rfl
  | [], _ :: _, h => by cases h
  | _ :: _, [], h => by cases h
  | (a, b) :: qs, (c, e) :: ys, h => by
    have h' : PyData.tuple [.str a, .int b] :: prD qs = .tuple [.str c, .int e] :: prD ys := h
    injection h' with h1 h2
    injection h1 with h3
    injection h3 with h4 h5
    injection h5 with h6 h7
    injection h4 with h8
    injection h6 with h9
    rw [h8, h9, prD_inj' h2]
theorem req_okQ {K : PySem.W.Frag} {C CS CP CM x dx : Addr} {H3 : Hp} {Q : VK} {E : XK} {m l : Addr} {v1 v2 v3 : V} {ys : List (Str × Int)} {d2 d3 : PyData} {B1 b1 B2 b2 : Nat} (so : SetOk ys) (h1 : Dq K H3 m l v1 (.tuple (prD ys))) (g1 : Gd B1 100000 b1 (.tuple (prD ys)))
    (h2 : Dq K H3 m l v2 d2) (g2 : Gd B2 100000 b2 d2) (h3 : Dq K H3 m l v3 d3) (hp : placesV ys d2 = none) (hm : modesV ys.length (wordsD ys.length d3) = none) (hx : H3 x = none) (hdx : H3 dx = none) (ne : dx ≠ x)
    (hQ : ∀ (v3' : V) (H' : Hp), Same H3 H' → H' x = some (.ins C dx (reqF v1 v2 v3')) → Dq K H' m l v3' (wordsD ys.length d3) → Q .non H') : spReq K C CS CP CM [.ref x, v1, v2, v3] (upd (upd H3 dx (.own x)) x (.ins C dx [])) Q E := by
  have s0 : Same H3 (upd (upd H3 dx (.own x)) x (.ins C dx [])) := (Same.upd hdx).trans (Same.upd (by rw [upd_ne ne.symm]; exact hx))
  have xs : ∀ {H'}, SameX x (upd (upd H3 dx (.own x)) x (.ins C dx [])) H' → Same H3 H' := fun k b o e => k b o (ne_of_none e hx) (s0 b o e)
  refine ⟨m, l, x, dx, v1, v2, v3, .tuple (prD ys), d2, d3, B1, b1, B2, b2, rfl, upd_same, Dq.same s0 _ _ h1, g1, Dq.same s0 _ _ h2, g2, Dq.same s0 _ _ h3, (fun u hu => by rw [so.need] at hu; cases hu), fun _ qs eq => ?_⟩
  have eq' : qs = ys := (prD_inj' (PyData.tuple.inj eq)).symm
  subst eq'
  exact ⟨fun u hu => (by rw [hp] at hu; cases hu), fun _ => ⟨fun u hu => (by rw [hm] at hu; cases hu), fun _ H' v3' k hd dq3 => hQ v3' H' (xs k) hd dq3⟩⟩
end Ms
namespace Ms
open PySem PySem.Spec PyProof.Rows L2
/-! ### o.m(..) in a suite that catches: what is wished hangs on the slots -/
section
variable {X : Cx} {CX : CXT} {k : Nat} {f C : Addr} {fd : FuncData} {ps : List Str} {sp : Sp} {E : L2.St → XK} {m : Str} {pos apos : Pos} {e o : Expr} {es : List Expr} {ta : TE} {t : TA}
def tMethS (C : Addr) (m : Str) (sp : Sp) (E : L2.St → XK) (ta : TE) (t : TA) : TE := fun σ H Q => ta σ H fun x H1 => ∃ a dx fs, x = .ref a ∧ H1 a = some (.ins C dx fs) ∧ fs.lookup m = none ∧ t σ H1 fun vs H2 => sp (x :: vs) H2 Q (E σ)
theorem pe_methS {pl : Sem Bool} (he : PE X o ta) (c : Cls X.K C) (hm : Meth X.K C m f) (F : FnOk X.prog X.w X.K X.mg X.base CX k f fd ps sp) (hr : Room k X.A) (hb : Binds X.K fd ps []) (hx : ∀ σ, PassesAt CX X σ (E σ)) (ha : PA X (e :: es) t)
    (hst : starEach (e :: es) X.env = (false, eval e X.env) :: starEach es X.env := by rfl) (hpl : (backTo pos (starEach es X.env)).any (·.1) = false := by rfl)
    (ht : eval (.Call (.Attribute o m apos) (e :: es) [] pos) X.env = (do
      let ov ← eval o X.env
      standAt apos.atName
      let (f, first) ← holding [ov] (getMethod ov m pl)
      callWith pos f first (backTo pos (starEach (e :: es) X.env)) (backToKw pos (keywordEach [] X.env))) := by rfl) :
    PE X (.Call (.Attribute o m apos) (e :: es) [] pos) (tMethS C m sp E ta t) := by
  refine ⟨fun pins s σ H Q I h => ?_⟩
  refine PySem.W.methodCall_KW (pl := pl) (thn (he.run pins s σ H _ I h) fun u s1 ⟨x, H1, I1, rx, a, dx, fs, ex, ea, l, q⟩ => ?_) ht
  subst ex
  obtain rfl : u = Value.ref a := rx
  refine getmeth_ok I1 ea c hm l ?_
  refine PySem.W.callWith_K (first := [.ref a]) (h₀ := X.base) I.ok.mod.kin hm.kp (thn (ha.run pos pins s1 σ H1 _ I1 q) fun us s2 ⟨vs, H2, I2, r, q2⟩ => ⟨I2.kIn, ?_⟩) hst hpl
  exact run_fnS (us := .ref a :: us) (vs := .ref a :: vs) F hr hb (hx σ) I2 (.cons rfl r) q2
end
end Ms
namespace Ms
open PySem PySem.Spec PyProof.Rows L2 StX
/-! ### a def that takes any keywords: def f(self, **d), called o.f(k = v, ..) -/
/-- what the dict holds -/
def kwD (ks : List Str) (zs : List V) : List (Key × V) := (ks.zip zs).map fun p => (.inr p.1, p.2)
section
variable {prog : Program} {w : World} {A : Around} {E : Value → Shared → Prop} {d : Addr}
theorem set_kw {s : Shared} {es : List DictEntry} {n : Nat} {k : Str} {v : Value} {Q : Unit → Shared → Prop} (D : s.heap.get? d = some (PySem.W.dictOf es n))
    (hs : ∀ e ∈ es, e.key.isStr k = false) (hr : ∀ e ∈ es, e.refKey = false)
    (h : ∀ h' : Heap, (∀ b o, b ≠ d → s.heap.get? b = some o → h'.get? b = some o) → h'.objs.size = s.heap.objs.size → h'.get? d = some (PySem.W.dictOf (es ++ [⟨PyData.keyHash w.params k, .str k s.toks, v⟩]) (n + 1)) → Q () { s with heap := h', toks := s.toks + 1 }) :
    wpAny (model prog w) A (nsSet d k v) Q E s := by
  have e1 : es.any (·.key.isStr k) = false := by
    cases q : es.any (·.key.isStr k) with
    | false => rfl
    | true => obtain ⟨e, he, z⟩ := List.any_eq_true.mp q; rw [hs e he] at z; cases z
  have e2 : es.any (·.refKey) = false := by
    cases q : es.any (·.refKey) with
    | false => rfl
    | true => obtain ⟨e, he, z⟩ := List.any_eq_true.mp q; rw [hr e he] at z; cases z
  have e : Obj.putName k (PyData.keyHash w.params k) (.str k s.toks) v (PySem.W.dictOf es n) = PySem.W.dictOf (es ++ [⟨PyData.keyHash w.params k, .str k s.toks, v⟩]) (n + 1) := by
    rw [PySem.W.putName_dict, PySem.W.putL_new hs]
    show PySem.W.dictOf _ (if es.any (·.key.isStr k) then n else n + 1) = _
    rw [e1, if_neg Bool.false_ne_true]
  have c : aRefKeyMayBeTheName k es.toArray = false := by
    rw [aRefKeyMayBeTheName_at, ← Array.any_toList, ← Array.any_toList]
    show (!es.any (·.key.isStr k) && es.any (·.refKey)) = false
    rw [e2, Bool.and_false]
  unfold nsSet
  refine wpAny_bind (wpAny_bind (wpAny_askSetting (wpAny_pure (wpAny_bind (wpAny_mkText (wpAny_bind (wpAny_loadPart D ?_)))))))
  dsimp only
  rw [c]
  have D2 := Heap.get?_update_self (Obj.putName k (PyData.keyHash w.params k) (.str k s.toks) v) D (by rw [e]; rfl)
  rw [e] at D2
  exact wpAny_updatePart D (h _ (fun b o hb q => (Heap.get?_update_other _ _ (Ne.symm hb)).trans q) (Heap.size_update _ _ _) D2)
theorem fill_kw {Q : PUnit → Shared → Prop} : ∀ (ex : List (Str × Value)) (s : Shared) (es : List DictEntry) (n : Nat), s.heap.get? d = some (PySem.W.dictOf es n) →
    (∀ e ∈ es, ∀ x ∈ ex, e.key.isStr x.1 = false) → (∀ e ∈ es, e.refKey = false) → (ex.map (·.1)).Nodup →
    (∀ h' : Heap, (∀ b o, b ≠ d → s.heap.get? b = some o → h'.get? b = some o) → h'.objs.size = s.heap.objs.size → h'.get? d = some (PySem.W.dictOf (es ++ PySem.W.kwEs w.params s.toks ex) (n + ex.length)) → Q ⟨⟩ { s with heap := h', toks := s.toks + ex.length }) →
    wpAny (model prog w) A (forIn ex PUnit.unit fun x _ => (nsSet d x.1 x.2 >>= fun _ => pure (ForInStep.yield PUnit.unit))) Q E s
  | [], s, es, n, D, _, _, _, h => by
    rw [List.forIn_nil]
    refine wpAny_pure (h s.heap (fun _ _ _ q => q) rfl ?_)
    show _ = some (PySem.W.dictOf (es ++ []) n)
    rw [List.append_nil]
    exact D
  | x :: r, s, es, n, D, hs, hr, hn, h => by
    obtain ⟨hn1, hn2⟩ := List.nodup_cons.mp (show (x.1 :: r.map (·.1)).Nodup from hn)
    rw [List.forIn_cons]
    refine wpAny_bind (wpAny_bind (set_kw D (fun e he => hs e he x (.head _)) hr fun h' k1 z1 D1 => wpAny_pure ?_))
    show wpAny (model prog w) A (forIn r PUnit.unit fun x _ => (nsSet d x.1 x.2 >>= fun _ => pure (ForInStep.yield PUnit.unit))) Q E { s with heap := h', toks := s.toks + 1 }
    refine fill_kw r { s with heap := h', toks := s.toks + 1 } _ _ D1 (fun e he y hy => ?_) (fun e he => ?_) hn2 fun h'' k2 z2 D2 => ?_
    · rcases List.mem_append.mp he with he | he
      · exact hs e he y (.tail _ hy)
      · obtain rfl := List.mem_singleton.mp he
        show (x.1 == y.1) = false
        exact beq_eq_false_iff_ne.mpr fun q => hn1 (by rw [q]; exact List.mem_map_of_mem hy)
    · rcases List.mem_append.mp he with he | he
      · exact hr e he
      · obtain rfl := List.mem_singleton.mp he
        rfl
    · have t1 : s.toks + 1 + r.length = s.toks + (r.length + 1) := by omega
      have t2 : n + 1 + r.length = n + (r.length + 1) := by omega
      show Q ⟨⟩ { s with heap := h'', toks := s.toks + 1 + r.length }
      rw [t1]
      refine h h'' (fun b o hb q => k2 b o hb (k1 b o hb q)) (z2.trans z1) ?_
      rw [t2, List.append_assoc] at D2
      exact D2
theorem kwEs_pairsM : ∀ (ex : List (Str × Value)) (t : Tok), Pairs (mixKind prog w) (PySem.W.kwEs w.params t ex) (ex.map fun x => (.inr x.1, x.2))
  | [], _ => Pairs.nil
  | x :: r, t => Pairs.cons (mixKind_str prog w x.1 t) rfl (kwEs_pairsM r (t + 1))
theorem kw_nodup {ex : List (Str × Value)} (h : (ex.map (·.1)).Nodup) : ((ex.map fun x => ((.inr x.1 : Key), x.2)).map (·.1)).Nodup := by
  rw [List.map_map]
  have e : ((fun x : Key × Value => x.1) ∘ fun x : Str × Value => ((.inr x.1 : Key), x.2)) = (fun y : Str => (.inr y : Key)) ∘ (·.1) := rfl
  rw [e, ← List.map_map]
  exact List.Pairwise.map _ (fun a b hab z => hab (Sum.inr.inj z)) h
theorem kwD_kv : ∀ {ks : List Str} {zs : List V} {ws : List Value}, Vals zs ws → KV (kwD ks zs) ((ks.zip ws).map fun x => (.inr x.1, x.2))
  | [], _, _, _ => .nil
  | _ :: _, _, _, .nil => .nil
  | k :: ks, _, _, .cons r t => .cons ⟨rfl, r⟩ (kwD_kv (ks := ks) t)
theorem kw_ok {P : Program} {H : Hp} {h : Heap} {ks : List Str} {zs : List V} {ws : List Value} {t : Tok} {n : Nat} (rz : Vals zs ws) (hn : ks.Nodup) (hl : ws.length = ks.length) (hk : ks.length ≤ 1000) (hd : (d == sysModules) = false) (D : h.get? d = some (PySem.W.dictOf (PySem.W.kwEs w.params t (ks.zip ws)) n)) :
    ObjOk P w H h d (.dK (kwD ks zs)) := by
  have en : (ks.zip ws).map (·.1) = ks := List.map_fst_zip (by omega)
  refine ⟨?_, hd, _, kwD_kv rz, _, _, _, D, ⟨rfl, rfl, rfl⟩, rfl, fun e he => ?_, ?_, kw_nodup (by rw [en]; exact hn)⟩
  · have : (kwD ks zs).length ≤ 1000 := by
      unfold kwD
      rw [List.length_map, List.length_zip]
      omega
    exact Nat.le_of_lt (small1000 this)
  · obtain ⟨k, u, e1, e2⟩ := PySem.W.kwEs_key (ks.zip ws) t e (by simpa using he)
    exact ⟨.inr k, by rw [e1]; exact mixKind_str P w k u, e2⟩
  · have := kwEs_pairsM (prog := P) (w := w) (ks.zip ws) t
    simpa using this
end

section
variable {P : Program} {w : World} {K : PySem.W.Frag} {mg : Str → Option Value} {base : Heap}
/-- a new object laid ahead of a def's body, in a heap that grows -/
theorem env0_new {A : Around} {outer : List Env} {s : Shared} {H : Hp} {u : HO} {h' : Heap} {tk : Nat} (e0 : Env0 P w K mg base A outer s H) (kp : ∀ b x, s.heap.get? b = some x → h'.get? b = some x) (sz : s.heap.objs.size ≤ h'.objs.size)
    (new : ObjOk P w (upd H s.heap.objs.size u) h' s.heap.objs.size u) : Env0 P w K mg base A outer { s with heap := h', toks := tk } (upd H s.heap.objs.size u) := by
  refine ⟨e0.frames, e0.mod, fun b x e => ⟨kp b x (e0.bs b x e).1, ?_⟩, Nat.le_trans e0.bsz sz, Heap.FunFrames.of_keeps (fun b x e _ => ⟨x, kp b x e, rfl⟩) e0.funs, fun b hb => ?_, e0.hok.laid kp (Nat.le_refl _) new, e0.bare⟩
  · rw [upd_ne (Nat.ne_of_lt (Heap.lt_size (e0.bs b x e).1))]
    exact (e0.bs b x e).2
  · obtain ⟨_, x, hx, _⟩ := e0.funs.mem hb
    rw [upd_ne (Nat.ne_of_lt (Heap.lt_size hx))]
    exact e0.frf b hb
/-- called with these keywords (all of them go to the dict) -/
def FnKw (P : Program) (w : World) (K : PySem.W.Frag) (mg : Str → Option Value) (base : Heap) (CX : CXT) (k : Nat) (f : Addr) (ks : List Str) (sp : Sp) : Prop :=
  ∀ (A : Around) (outer : List Env) (s : Shared) (H : Hp) (u : Value) (ws : List Value) (v : V) (zs : List V) (Q : VK) (E : XK), Room k A → Env0 P w K mg base A outer s H → RelV v u → Vals zs ws → zs.length = ks.length →
    (∀ d, H d = none → sp [v, .ref d] (upd H d (.dK (kwD ks zs))) Q E) → codeAny (model P w) A (.call (.ref f) ⟨[u], ks.zip ws⟩) (CR CX outer P w H s Q E) s
theorem fn_kw {CX : CXT} {k : Nat} {f : Addr} {name qual : Str} {params : Arguments} {body : List Stmt} {scope : Scope} {dV kV doc pm cdv ct oc : Value} {an od : Option Addr} {osl : Array (Option Value)} {N : List Str} {p1 pd : Str} {sp : Sp} {ks : List Str}
    (lk : K.lookup f = some ⟨oc, od, .func (PySem.W.fnOf name qual params body scope dV kV doc pm an cdv ct), osl⟩) (hcd : PySem.W.codeIn K cdv qual = true) (S : FnScope N [p1, pd] scope) (hCX : CXUp CX) (hn : ks.Nodup) (hk : ks.length ≤ 1000)
    (hb : ∀ (u : Value) (ws : List Value), ws.length = ks.length → bindArgs (PySem.W.fnOf name qual params body scope dV kV doc pm an cdv ct) ⟨[u], ks.zip ws⟩ =
      ((alloc ({ cls := .type "dict", data := .dict #[] } : Obj) : Sem Addr) >>= fun d => (forIn (ks.zip ws) PUnit.unit fun x _ => (nsSet d x.1 x.2 >>= fun _ => pure (ForInStep.yield PUnit.unit))) >>= fun _ => pure [(p1, u), (pd, Value.ref d)]))
    (hbody : ∀ (A : Around) (outer : List Env) (s : Shared) (H : Hp) (vs : List V) (Q : VK) (E : XK), Room k (A.deeper (envOfC qual scope s.heap.objs.size f cdv)) → sp vs H Q E →
      ∃ t, PSs (cxOf CX P w K mg base N qual scope f cdv A outer s H E) body t ∧ t { nx := fun _ H' => Q .non H', rt := Q } (start N vs) H) : FnKw P w K mg base CX (k + 1) f ks sp := by
  intro A outer s H u ws v zs Q E hr e0 ru rz hl hq
  have hn0 : H s.heap.objs.size = Option.none := e0.hok.fresh (Nat.le_refl _)
  have lw : ws.length = ks.length := by rw [← rz.length]; exact hl
  refine run_bnd lk hcd S hr e0 (G := fun xs H2 => ∃ d, H d = Option.none ∧ xs = [v, V.ref d] ∧ H2 = upd H d (.dK (kwD ks zs))) (fun A' Ex Q' h => ?_) fun s2 H2 xs ⟨d, hd, ex, eH⟩ hr' => ?_
  · rw [hb u ws lw]
    refine wpAny_bind (wpAny_alloc ?_)
    have D0 : (s.heap.push { cls := .type "dict", data := .dict #[] }).get? s.heap.objs.size = some (PySem.W.dictOf [] 0) := Heap.get?_push_size _ rfl
    have en : (ks.zip ws).map (·.1) = ks := List.map_fst_zip (by omega)
    refine wpAny_bind (fill_kw (ks.zip ws) { s with heap := s.heap.push { cls := .type "dict", data := .dict #[] } } [] 0 D0 (fun e he => nomatch he) (fun e he => nomatch he) (by rw [en]; exact hn) fun h' k1 z1 D1 => wpAny_pure ?_)
    have kp : ∀ b x, s.heap.get? b = some x → h'.get? b = some x := fun b x e => k1 b x (Nat.ne_of_lt (Heap.lt_size e)) (Heap.get?_push_of_some _ e)
    have sz : s.heap.objs.size ≤ h'.objs.size := by
      rw [z1]
      show s.heap.objs.size ≤ (s.heap.push _).objs.size
      rw [Heap.size_push]; exact Nat.le_succ _
    have big := env0_big e0
    have nm : (s.heap.objs.size == sysModules) = false := beq_eq_false_iff_ne.mpr (Nat.ne_of_gt big)
    have new : ObjOk P w (upd H s.heap.objs.size (.dK (kwD ks zs))) h' s.heap.objs.size (.dK (kwD ks zs)) := kw_ok rz hn lw hk nm D1
    have un : Un (frs outer) [] H (upd H s.heap.objs.size (.dK (kwD ks zs))) s.heap h' := Un.laid kp (Nat.le_refl _) hn0
    have z0 := env0_new (tk := s.toks + (ks.zip ws).length) e0 kp sz new
    exact h { s with heap := h', toks := s.toks + (ks.zip ws).length } (upd H s.heap.objs.size (.dK (kwD ks zs))) [v, V.ref s.heap.objs.size] [u, Value.ref s.heap.objs.size] z0 un rfl (fun e s' => hCX outer s H _ _ E e s' un kp rfl) (.cons ru (.cons rfl .nil)) rfl ⟨_, hn0, rfl, rfl⟩
  · subst ex eH
    exact hbody A outer s2 _ _ Q E hr' (hq d hd)
end
/-! ### o.m(k = v, ..) -/
section
variable {X : Cx} {CX : CXT} {k : Nat} {f C : Addr} {ks : List Str} {sp : Sp} {E : XK} {m : Str} {pos apos : Pos} {o : Expr} {kws : List Keyword} {ta : TE} {tk : TA}
def tMethKw (C : Addr) (m : Str) (ks : List Str) (sp : Sp) (E : XK) (ta : TE) (tk : TA) : TE := fun σ H Q => ta σ H fun x H1 => ∃ a dx fs, x = .ref a ∧ H1 a = some (.ins C dx fs) ∧ fs.lookup m = none ∧ tk σ H1 fun zs H2 => zs.length = ks.length ∧ ∀ d, H2 d = none → sp [x, .ref d] (upd H2 d (.dK (kwD ks zs))) Q E
theorem pe_methkw {pl : Sem Bool} (he : PE X o ta) (c : Cls X.K C) (hm : Meth X.K C m f) (F : FnKw X.prog X.w X.K X.mg X.base CX k f ks sp) (hr : Room k X.A) (hx : Passes CX X E) (hkw : PK X kws tk)
    (hall : (backToKw pos (keywordEach kws X.env)).all (·.1.isSome) = true := by rfl) (hks : (backToKw pos (keywordEach kws X.env)).filterMap (·.1) = ks := by rfl)
    (hpl : ((backTo pos (starEach [] X.env)).any (·.1) || (backToKw pos (keywordEach kws X.env)).any (·.1.isNone)) = false := by rfl)
    (ht : eval (.Call (.Attribute o m apos) [] kws pos) X.env = (do
      let ov ← eval o X.env
      standAt apos.atName
      let (f, first) ← holding [ov] (getMethod ov m pl)
      callWith pos f first (backTo pos (starEach [] X.env)) (backToKw pos (keywordEach kws X.env))) := by rfl) :
    PE X (.Call (.Attribute o m apos) [] kws pos) (tMethKw C m ks sp E ta tk) := by
  refine ⟨fun pins s σ H Q I h => ?_⟩
  refine PySem.W.methodCall_KW (pl := pl) (thn (he.run pins s σ H _ I h) fun u s1 ⟨x, H1, I1, rx, a, dx, fs, ex, ea, l, q⟩ => ?_) ht
  subst ex
  obtain rfl : u = Value.ref a := rx
  refine getmeth_ok I1 ea c hm l ?_
  refine PySem.W.callWith_KW0 (first := [.ref a]) (h₀ := X.base) I.ok.mod.kin hm.kp hall (thn (hkw.run pos pins s1 σ H1 _ I1 q) fun ws s2 ⟨zs, H2, I2, rz, l2, q2⟩ => ⟨I2.kIn, ?_⟩) hpl
  rw [hks]
  refine wpAny_call (codeAny_mono (F X.A X.stack s2 H2 (.ref a) ws (.ref a) zs Q E hr I2.env0 rfl rz l2 q2) fun r s' hq => ?_)
  cases r with
  | error e => exact hx pins σ H2 s2 e s' I2 hq
  | ok fl =>
    cases fl with
    | ret u => exact I2.after hq
    | next => exact False.elim hq
    | brk => exact False.elim hq
    | cont => exact False.elim hq
end
end Ms
namespace Ms
open PySem PySem.Spec PyProof.Rows
section
open Builtin Builtin.ObjectAttr
variable {prog : Program} {w : World} {A : Around} {E : Value → Shared → Prop} {R : Result → Shared → Prop} {hp : Heap} {g : Array GenState} {d : Drawn} {t : Nat} {os : OsState} {B newId initId : String} {bmB : List Value}
/-- the first field of an exception, whatever its built-in base -/
theorem exc_put {K : PySem.W.Frag} {name : Str} {tk : Tok} {v : Value} {x C : Addr} {fv : Array Value} (SF : StoreFacts B bmB "object.__setattr__" "object") (X : K.In hp)
    (hx : hp.get? x = some { cls := .ref C, data := .fields fv }) (ov : PySem.W.excOver K C bmB = true) (hd : PySem.W.hasDictIn K C = true) (ht : PySem.W.takerIn K C name = some none)
    (hq : ∀ h' tk' dx, (∀ b o, b ≠ x → hp.get? b = some o → h'.get? b = some o) → hp.objs.size ≤ dx → dx ≠ x → h'.get? x = some { cls := .ref C, dict := some dx, data := .fields fv } →
      h'.Ns1 dx (fun y => if y = name then some v else none) → R (.ok (.ret .none)) ⟨h', g, d, tk', os⟩) :
    codeAny (model prog w) A (.call (.builtin "object.__setattr__") ⟨[.ref x, .str name tk, v], []⟩) R ⟨hp, g, d, t, os⟩ := by
  have far : x ≠ hp.objs.size := Nat.ne_of_lt (Heap.lt_size hx)
  refine PySem.W.osa_openX (s := ⟨hp, g, d, t, os⟩) (ox := { cls := .ref C, data := .fields fv }) (od := none) SF X ⟨hx, rfl, rfl, trivial⟩ ov ht fun b => ?_
  show wpAny _ _ (storeInOwnDict (.ref x) (.ref C) (.str name tk) name v b) _ _ _
  obtain ⟨cd, hc, hhd⟩ := PySem.W.any_some hd
  have look : PySem.W.Looks (model prog w) hp (classData C) cd := PySem.W.looks_clsIn X hc
  obtain ⟨nm, bs, mro, ns, qn, has, sn, sb, ab, col, del⟩ := cd
  dsimp only at hhd
  subst hhd
  unfold storeInOwnDict ownDictForStores
  repeat (first | with_reducible refine PySem.HandSPX.store_in_new ?_ ?_ | with_reducible refine wpAny_loadPart_at hx ?_ | with_reducible refine look.at ?_ | wp_step)
  · exact ⟨_, #[], _, (Heap.get?_update_ne _ _ _ _ far.symm).trans (Heap.get?_push_at rfl rfl), rfl, fun e he => absurd he (by simp), fun _ => rfl⟩
  · intro h' tk' hn' hs
    have old : (hp.push { cls := .type "dict", data := .dict #[] }).get? x = some { cls := .ref C, data := .fields fv } := Heap.get?_push_of_some _ hx
    refine hq h' tk' hp.objs.size (fun b o hb ho => ?_) (Nat.le_refl _) far.symm ?_ hn'
    · rw [hs.2 b (Nat.ne_of_lt (Heap.lt_size ho)), Heap.get?_update_ne _ _ _ _ hb]
      exact Heap.get?_push_of_some _ ho
    · rw [hs.2 x far]
      exact Heap.get?_update_self _ old rfl

/-! ### C(f = u): an own exception class called by its field's name -/
section
variable {nm q : Str} {C N : Addr} {bs bm : List Value} {hdct : Bool} {sn : List Str} {sub : List Value} {ab : Bool} {col : Option Bool} {dd : Option Addr} {k0 k1 k2 k3 k5 : Option Value} {f : Str} {u : Value}
theorem kw_checked (F : ExcBaseFacts B newId initId bmB) (same : ∀ Y : String, bm.contains (.type Y) = bmB.contains (.type Y)) {Q : Unit → Shared → Prop}
    (hC : hp.get? C = some (excClassObj nm q C N bs bm hdct sn sub ab col dd k0 k1 k2 k3 k5 newId)) (hq : Q () ⟨hp, g, d, t, os⟩) : wpAny (model prog w) A (checkBuiltinCall newId ⟨[.ref C], [(f, u)]⟩) Q E ⟨hp, g, d, t, os⟩ := by
  have hasB : (Value.ref C :: bm).contains (.type B) = true := by rw [List.contains_cons, same, F.hasB, Bool.or_true]
  have star := F.noStar
  simp only [checkBuiltinCall, F.newKind, F.newSplit, F.newRow]
  repeat (first | refine wpAny_loadPart_at hC ?_ | (refine wpAny_isSubtype_exc hC ?_; rw [hasB]) | refine wpAny_staticBase_exc hC ?_ | refine wpAny_madeBy_exc hC ?_ | simp only [bne_self_eq_false, Bool.false_eq_true, if_false] | wp_step)
  exact hq
theorem kw_new (F : ExcBaseFacts B newId initId bmB) (same : ∀ Y : String, bm.contains (.type Y) = bmB.contains (.type Y))
    (hC : hp.get? C = some (excClassObj nm q C N bs bm hdct sn sub ab col dd k0 k1 k2 k3 k5 newId))
    (hq : R (.ok (.ret (.ref (hp.objs.size + 1)))) ⟨(hp.push { cls := .type "tuple", data := .seq #[] }).push { cls := .ref C, data := .fields #[.ref hp.objs.size, .none, .none, .none, .bool false, .none] }, g, d, t, os⟩) :
    codeAny (model prog w) A (.builtin newId ⟨[.ref C], [(f, u)]⟩) R ⟨hp, g, d, t, os⟩ := by
  have ends := F.ends
  have cB : (Value.ref C :: bm).contains (.type B) = true := by rw [List.contains_cons, same, F.hasB, Bool.or_true]
  have cA : (Value.ref C :: bm).contains (.type "AttributeError") = false := by rw [List.contains_cons, same, F.noAttr]; rfl
  have cN : (Value.ref C :: bm).contains (.type "NameError") = false := by rw [List.contains_cons, same, F.noName]; rfl
  refine codeAny_builtinAt F.entry ?_
  unfold Builtin.«BaseException.__new__»
  refine PySem.wpAt_bind ?_
  show PySem.wpAt _ _ _ (stack >>= _) _ _ _
  refine PySem.wpAt_bind (PySem.wpAt_stack fun p below => PySem.wpAt_of_wpAny ?_)
  wp_walk
  refine PySem.wpAt_of_wpAny ?_
  rw [F.owner]
  repeat (first | with_reducible refine wpAny_madeHere_exc F.canon hC ?_ | with_reducible refine wpAny_loadPart_at hC ?_ | (with_reducible refine wpAny_isSubtype_exc hC ?_; first | rw [cB] | rw [cA] | rw [cN]) | wp_step)
  show R _ _
  rw [Heap.size_push]
  exact hq
theorem kw_made (F : ExcBaseFacts B newId initId bmB) (same : ∀ Y : String, bm.contains (.type Y) = bmB.contains (.type Y)) {fI : Addr} {Q : Fin → Shared → Prop}
    (hC : hp.get? C = some (excClassObj nm q C N bs bm hdct sn sub ab col dd k0 k1 k2 k3 k5 newId))
    (ini : PySem.W.Looks (model prog w) hp (typeLookup (.ref C) "__init__") (some (.ref fI))) (bnd : ∀ self, PySem.W.Looks (model prog w) hp (bindSpecial (.ref fI) self) (.ref fI, [self]))
    (hq : codeAny (model prog w) A (.call (.ref fI) ⟨[.ref (hp.objs.size + 1)], [(f, u)]⟩)
      (fun r s' => match r with | .ok (.ret v) => v = .none ∧ Q (.done (.ret (.ref (hp.objs.size + 1)))) s' | .ok _ => False | .error e => E e s')
      ⟨(hp.push (PySem.W.kdv_tup [])).push (PySem.HandSPX.excO C hp.objs.size), g, d, t, os⟩) :
    wpAny (model prog w) A (Builtin.«type.__call__» ⟨[.ref C], [(f, u)]⟩) Q E ⟨hp, g, d, t, os⟩ := by
  repeat (first | with_reducible refine wpAny_loadPart_at hC ?_ | with_reducible refine wpAny_madeBy_exc hC ?_ | wp_step)
  refine codeAny_call_builtin_code (Code.quiet_builtin _ F.quiet) (kw_checked F same hC ?_)
  refine kw_new F same hC ?_
  show wpAny _ _ _ _ _ _
  have old : ∀ b o, hp.get? b = some o → ((hp.push (PySem.W.kdv_tup [])).push (PySem.HandSPX.excO C hp.objs.size)).get? b = some o := fun b o e => Heap.get?_push_of_some _ (Heap.get?_push_of_some _ e)
  have atC := old _ _ hC
  have atE : ((hp.push (PySem.W.kdv_tup [])).push (PySem.HandSPX.excO C hp.objs.size)).get? (hp.objs.size + 1) = some (PySem.HandSPX.excO C hp.objs.size) := by heap_get
  have isC : (Value.ref C :: bm).contains (.ref C) = true := by simp
  have look1 := ini.keeps old
  have look2 := (bnd (.ref (hp.objs.size + 1))).keeps old
  unfold isInstance
  repeat (first | with_reducible refine wpAny_loadPart_at atE ?_ | (with_reducible refine wpAny_isSubtype_exc atC ?_; rw [isC]) | wp_step)
  show wpAny _ _ (typeLookup (.ref C) _) _ _ _
  refine look1.at ?_
  refine wpAny_holding (wpAny_bind (look2.at (wpAny_bind (wpAny_call (codeAny_mono hq fun r s' z => ?_)))))
  rcases r with e | (v | _ | _ | _) <;> first | exact z | exact z.elim | skip
  obtain ⟨rfl, z⟩ := z
  first
    | exact wpAny_pure (wpAny_pure z)
    | (wp_walk; exact z)
theorem kw_type_checked {M : Model} {Q : Unit → Shared → Prop} (hC : hp.get? C = some (excClassObj nm q C N bs bm hdct sn sub ab col dd k0 k1 k2 k3 k5 newId)) (hq : Q () ⟨hp, g, d, t, os⟩) :
    wpAny M A (checkBuiltinCall "type.__call__" ⟨[.ref C], [(f, u)]⟩) Q E ⟨hp, g, d, t, os⟩ := by
  have below := tc_sub
  have isT : (⟨hp, g, d, t, os⟩ : Shared).TypeIs (.ref C) "type" := ⟨_, hC, rfl⟩
  simp only [checkBuiltinCall, tc_kind, tc_split]
  repeat (any_goals (first | assumption | with_reducible refine wpAny_loadPart_at hC ?_ | with_reducible refine wpAny_onRaise ?_ | with_reducible refine wpAny_map ?_ | wp_step))
theorem kw_called (F : ExcBaseFacts B newId initId bmB) (same : ∀ Y : String, bm.contains (.type Y) = bmB.contains (.type Y)) {fI : Addr}
    (hC : hp.get? C = some (excClassObj nm q C N bs bm hdct sn sub ab col dd k0 k1 k2 k3 k5 newId))
    (ini : PySem.W.Looks (model prog w) hp (typeLookup (.ref C) "__init__") (some (.ref fI))) (bnd : ∀ self, PySem.W.Looks (model prog w) hp (bindSpecial (.ref fI) self) (.ref fI, [self]))
    (hq : codeAny (model prog w) (A.under (.builtin "type.__call__" ⟨[.ref C], [(f, u)]⟩)) (.call (.ref fI) ⟨[.ref (hp.objs.size + 1)], [(f, u)]⟩) (PySem.W.InitBack (hp.objs.size + 1) R)
      ⟨(hp.push (PySem.W.kdv_tup [])).push (PySem.HandSPX.excO C hp.objs.size), g, d, t, os⟩) :
    codeAny (model prog w) A (.call (.ref C) ⟨[], [(f, u)]⟩) R ⟨hp, g, d, t, os⟩ := by
  have f1 := tc_lookup
  have f2 := tc_bind (.ref C)
  have isT : (⟨hp, g, d, t, os⟩ : Shared).TypeIs (.ref C) "type" := ⟨_, hC, rfl⟩
  refine codeAny_of_tree ?_
  show wpAny _ _ (callAny (.ref C) _) _ _ _
  repeat (any_goals (first | assumption | with_reducible refine wpAny_loadPart_at hC ?_ | wp_step))
  refine ⟨rfl, ?_⟩
  refine codeAny_call_builtin_at (Code.quiet_builtin _ (by decide +kernel)) entry_typeCall (kw_type_checked hC (kw_made F same hC ini bnd ?_))
  refine codeAny_mono hq fun r s' z => ?_
  rcases r with e | (v | _ | _ | _) <;> exact z
end
end
end Ms
namespace Ms
open PySem PySem.Spec PyProof.Rows L2
/-- what the written part says of an own exception class x, at C, that keeps one field f -/
structure XC (K : PySem.W.Frag) (C fI : Addr) (f : Str) (newId : String) (bmB : List Value) : Prop where
  ini : PySem.W.excInitIn K C bmB newId = true
  ovr : PySem.W.excOver K C bmB = true
  sa : PySem.W.findIn K (.ref C) "__setattr__" = some (some (.builtin "object.__setattr__"))
  tk : PySem.W.takerIn K C f = some none
  hd : PySem.W.hasDictIn K C = true
  iC : PySem.W.findIn K (.ref C) "__init__" = some (some (.ref fI))
  fn : PySem.W.isFn K (.ref fI) = true
  kC : PySem.W.keepIn K (.ref C) = true
/-- at a: an exception of the class at C whose field f is y -/
def XE (H : Hp) (a C : Addr) (f : Str) (y : V) : Prop := ∃ dx, H a = some (exo a C (some dx)) ∧ H dx = some (exd dx [(f, y)])
def laidX (H : Hp) (a dx C : Addr) (f : Str) (y : V) : Hp := upd (upd H dx (exd dx [(f, y)])) a (exo a C (some dx))
def spInit (C : Addr) (f : Str) : Sp := fun vs H Q _ => ∃ (a : Addr) (y : V), vs = [.ref a, y] ∧ H a = some (exo a C none) ∧ ∀ dx, H dx = none → dx ≠ a → Q .non (laidX H a dx C f y)
section
variable {X : Cx} {pins : List (Addr × Obj)} {σ : L2.St} {H : Hp} {C fI a : Addr} {f : Str} {B newId initId : String} {bmB : List Value}
theorem inv_laid {hp h' : Heap} {g : Array GenState} {d : Drawn} {t tk : Nat} {os : OsState} {dx t1 : Addr} {y : V} {u : Value} (I : Inv X pins σ H ⟨hp, g, d, t, os⟩) (e : H a = some (exo a C none))
    (k : ∀ b o, b ≠ a → hp.get? b = some o → h'.get? b = some o) (dn : hp.objs.size ≤ dx) (hx : h'.get? a = some ({ cls := .ref C, dict := some dx, data := .fields #[.ref t1, .none, .none, .none, .bool false, .none] } : Obj))
    (hn : h'.Ns1 dx (fun z => if z = f then some u else none)) (ry : RelV y u) : Inv X pins σ (laidX H a dx C f y) ⟨h', g, d, tk, os⟩ := by
  have hnd : H dx = none := I.hok.fresh dn
  have nd : ∀ {b : Addr} {o : Obj}, hp.get? b = some o → b ≠ dx := fun {b o} q => Nat.ne_of_lt (Nat.lt_of_lt_of_le (Heap.lt_size q) dn)
  have na : ∀ {b : Addr}, H b = none → b ≠ a := fun {b} n z => by rw [z, e] at n; cases n
  have un : Un X.fs [] H (laidX H a dx C f y) hp h' := by
    constructor
    · exact fun b o q n _ _ => k b o (na n) q
    · exact fun b o q n _ _ => ⟨o.slots, k b o (na n) q⟩
    · intro b o q n _
      unfold laidX
      rw [upd_ne (na n), upd_ne (nd q)]
      exact n
    · intro b o q _
      by_cases hb : b = a
      · exact ⟨_, by rw [hb]; exact hx⟩
      · exact ⟨o, k b o hb q⟩
    · intro b xs q
      unfold laidX
      rw [upd_ne (at_ne e q exo_tup), upd_ne (ne_of_none q hnd)]
      exact q
    · intro b o v q
      unfold laidX
      rw [upd_ne (at_ne e q exo_frz), upd_ne (ne_of_none q hnd)]
      exact q
    · intro b ps q
      refine ⟨#[], ?_⟩
      unfold laidX
      rw [upd_ne (at_ne e q exo_tbl), upd_ne (ne_of_none q hnd), q]
      simp
  refine I.un (t' := tk) un fun b o q => ?_
  unfold laidX at q ⊢
  by_cases hb : b = a
  · subst hb
    rw [upd_same] at q
    cases q
    exact exo_ok hx
  · rw [upd_ne hb] at q
    by_cases hd : b = dx
    · subst hd
      rw [upd_same] at q
      cases q
      exact exd_ok hn (relO_put (fs := []) ry fun g => True.intro)
    · rw [upd_ne hd] at q
      refine (I.hok b o q).stay (fun c v hc z => k c v ?_ z) (fun c hc => ?_) fun c xs hc => ?_
      · rcases hc with hc | hc
        · rw [hc]; exact hb
        · exact at_ne e hc exo_own
      · rw [upd_ne (at_ne e hc exo_own), upd_ne (ne_of_none hc hnd)]; exact hc
      · rw [upd_ne (at_ne e hc exo_tup), upd_ne (ne_of_none hc hnd)]; exact hc
/-- self.f = y -/
theorem xc_store {s : Shared} {y : V} {u : Value} {Q : Unit → Shared → Prop} {E : Value → Shared → Prop} {A : Around} (SF : StoreFacts B bmB "object.__setattr__" "object") (T : XC X.K C fI f newId bmB) (I : Inv X pins σ H s) (e : H a = some (exo a C none)) (ry : RelV y u)
    (h : ∀ dx s', H dx = none → dx ≠ a → Inv X pins σ (laidX H a dx C f y) s' → Q () s') : wpAny (model X.prog X.w) A (setAttr (.ref a) f u) Q E s := by
  obtain ⟨t1, ho⟩ := exo_at I.hok e
  obtain ⟨hp, g, d, t, os⟩ := s
  refine PySem.W.set_plain I.kIn (ox := { cls := .ref C, dict := none, data := .fields #[.ref t1, .none, .none, .none, .bool false, .none] }) (od := none) ⟨ho, rfl, rfl, trivial⟩ T.sa ?_
  refine exc_put SF I.kIn ho T.ovr T.hd T.tk fun h' tk' dx k dn dne hx hn => ?_
  exact h dx _ (I.hok.fresh dn) dne (inv_laid I e k dn hx hn ry)
def tXst (C : Addr) (f : Str) (to te : TE) : TS := fun D σ H => te σ H fun y H1 => to σ H1 fun x H2 => ∃ a : Addr, x = .ref a ∧ H2 a = some (exo a C none) ∧ ∀ dx, H2 dx = none → dx ≠ a → D.nx σ (laidX H2 a dx C f y)
theorem ps_xst {o e : Expr} {to te : TE} {p' pos : Pos} (SF : StoreFacts B bmB "object.__setattr__" "object") (T : XC X.K C fI f newId bmB) (ho : PE X o to) (he : PE X e te) (hs : swapsWith e (some (.Attribute o f p')) pos.line X.env = pure false := by rfl) :
    PS X (.Assign [.Attribute o f p'] e pos) (tXst C f to te) := by
  refine ⟨fun pins s σ H D I h => ?_⟩
  refine plainObj_wpAny_Assign_Attribute (thn (he.run pins s σ H _ I h) fun v s1 ⟨y, H1, I1, r1, q1⟩ => thn (ho.run pins s1 σ H1 _ I1 q1) fun u s2 ⟨x, H2, I2, r2, a, ex, ea, q⟩ => ?_) hs
  subst ex
  obtain rfl : u = Value.ref a := r2
  exact xc_store SF T I2 ea r1 fun dx s' n ne J => ⟨σ, _, J, q dx n ne⟩
end
section
variable {P : Program} {w : World} {K : PySem.W.Frag} {mg : Str → Option Value} {base : Heap} {C fI : Addr} {f : Str} {B newId initId : String} {bmB : List Value}
/-- __init__ of such a class -/
theorem ok_xinit {qual : Str} {st : Stmt} {fd : FuncData} {p1 p2 p3 p4 : Pos} (F : Fun K "__init__" qual st fI fd) (SF : StoreFacts B bmB "object.__setattr__" "object") (T : XC K C fI f newId bmB) (sc : FnScope ["self", f] ["self", f] (defScope st))
    (hb : defBody st = [.Assign [.Attribute (.Name "self" p1) f p2] (.Name f p3) p4]) (ls : (defScope st).names.lookup ("self" : Str) = some .local) (lf : (defScope st).names.lookup f = some .local) (gf : (f == ("__debug__" : Str)) = false) (gc : (f == ("__classdict__" : Str)) = false) : FnOk P w K mg base CX0 1 fI fd ["self", f] (spInit C f) := by
  refine F.ok sc (fun vs H Q E h => ?_) (fun cdv A outer s H vs Q E hr h => ?_)
  · obtain ⟨a, y, rfl, _⟩ := h
    rfl
  · obtain ⟨a, y, rfl, e, q⟩ := h
    rw [hb]
    refine ⟨_, pss_one (ps_xst SF T (pe_var (i := 0) rfl (.inl ls) (by decide) (by decide)) (pe_var (i := 1) rfl (.inl lf) gf gc) rfl), ?_⟩
    exact ⟨_, rfl, _, rfl, a, rfl, e, fun dx n ne => q dx n ne⟩
end

/-! ### C(e), C(f = e) -/
section
variable {X : Cx} {C fI : Addr} {f x : Str} {B newId initId : String} {bmB : List Value} {fd : FuncData} {te : TE} {e : Expr} {p pos : Pos}
def tXmk (C : Addr) (f : Str) (te : TE) : TE := fun σ H Q => te σ H fun y H1 => ∀ a dx, H1 a = none → H1 dx = none → dx ≠ a → Q (.ref a) (laidX H1 a dx C f y)
theorem laidX_over {H : Hp} {a dx C : Addr} {f : Str} {y : V} {o : HO} : laidX (upd H a o) a dx C f y = laidX H a dx C f y := by
  funext b
  unfold laidX upd
  by_cases h : b = a
  · rw [if_pos h, if_pos h]
  · rw [if_neg h, if_neg h]
    by_cases h2 : b = dx
    · simp only [if_pos h2]
      rw [if_neg h]
    · simp only [if_neg h2]
      rw [if_neg h]
/-- the making, from the call's arguments on: pos and kw are the two ways to hand the one value in -/
theorem xc_made {pins : List (Addr × Obj)} {σ : L2.St} {H1 : Hp} {hp : Heap} {g : Array GenState} {d : Drawn} {t : Nat} {os : OsState} {Q : VK} {y : V} {u : Value} {args : Args} (T : XC X.K C fI f newId bmB)
    (F1 : FnOk X.prog X.w X.K X.mg X.base CX0 1 fI fd ["self", f] (spInit C f)) (hr : Room 2 X.A) (I1 : Inv X pins σ H1 ⟨hp, g, d, t, os⟩) (ry : RelV y u) {A' : Around} (hA : Room 1 A') {tup : Obj}
    (env : ∀ s H, Env0 X.prog X.w X.K X.mg X.base X.A X.stack s H → Env0 X.prog X.w X.K X.mg X.base A' X.stack s H)
    (bd : ∀ s : Shared, X.K.In s.heap → BindsTo s fd args [("self", .ref (hp.objs.size + 1)), (f, u)])
    (q : ∀ a dx, H1 a = none → H1 dx = none → dx ≠ a → Q (.ref a) (laidX H1 a dx C f y)) :
    codeAny (model X.prog X.w) A' (.call (.ref fI) args) (PySem.W.InitBack (hp.objs.size + 1) fun r s' => match r with | .ok (.ret v) => EP X pins σ Q v s' | .ok _ => False | .error x => X.xe x s')
      ⟨(hp.push tup).push (PySem.HandSPX.excO C hp.objs.size), g, d, t, os⟩ := by
  have big : hp.objs.size ≤ hp.objs.size + 1 := Nat.le_succ _
  have new : H1 (hp.objs.size + 1) = none := I1.hok.fresh big
  have old : ∀ b o, hp.get? b = some o → ((hp.push tup).push (PySem.HandSPX.excO C hp.objs.size)).get? b = some o := fun b o z => Heap.get?_push_of_some _ (Heap.get?_push_of_some _ z)
  have atE : ((hp.push tup).push (PySem.HandSPX.excO C hp.objs.size)).get? (hp.objs.size + 1) = some (PySem.HandSPX.excO C hp.objs.size) := by
    have z := Heap.get?_push_size (h := hp.push tup) (o := PySem.HandSPX.excO C hp.objs.size) (ho := rfl)
    rw [Heap.size_push] at z
    exact z
  have I2 : Inv X pins σ (upd H1 (hp.objs.size + 1) (exo (hp.objs.size + 1) C none)) ⟨(hp.push tup).push (PySem.HandSPX.excO C hp.objs.size), g, d, t, os⟩ :=
    I1.laid (t' := t) (a := hp.objs.size + 1) (o := exo (hp.objs.size + 1) C none) old big (exo_ok atE)
  refine codeAny_mono (F1.run A' X.stack _ _ args [.ref (hp.objs.size + 1), u] [.ref (hp.objs.size + 1), y] (fun v H' => v = .non ∧ Q (.ref (hp.objs.size + 1)) H') (fun _ _ _ => False) hA (env _ _ I2.env0) (bd _ I2.kIn) (.cons rfl (.cons ry .nil)) ?_) fun r s' hq => ?_
  · refine ⟨_, y, rfl, upd_same, fun dx n ne => ⟨rfl, ?_⟩⟩
    rw [laidX_over]
    rw [upd_ne ne] at n
    exact q _ dx new n ne
  · match r, hq with
    | .error er, hq => exact False.elim hq
    | .ok (.next), hq => exact False.elim hq
    | .ok (.brk), hq => exact False.elim hq
    | .ok (.cont), hq => exact False.elim hq
    | .ok (.ret v), hq =>
      obtain ⟨z, H', J, rv, ez, qz⟩ := I2.after hq
      subst ez
      obtain rfl : v = Value.none := rv
      exact ⟨rfl, .ref (hp.objs.size + 1), H', J, rfl, qz⟩
theorem xc_looks {h : Heap} {M : Model} (T : XC X.K C fI f newId bmB) (hK : X.K.In h) : PySem.W.Looks M h (typeLookup (.ref C) "__init__") (some (.ref fI)) ∧ ∀ self, PySem.W.Looks M h (bindSpecial (.ref fI) self) (.ref fI, [self]) :=
  ⟨PySem.W.looks_findIn hK T.iC, fun self => PySem.W.bind_fn hK self (beq_iff_eq.mp T.fn)⟩
theorem pe_xc (FB : ExcBaseFacts B newId initId bmB) (T : XC X.K C fI f newId bmB) (F1 : FnOk X.prog X.w X.K X.mg X.base CX0 1 fI fd ["self", f] (spInit C f)) (hr : Room 2 X.A) (gC : X.mg x = some (.ref C)) (hg : Gl X x)
    (bd : ∀ (s : Shared) (v u : Value), BindsTo s fd ⟨[v, u], []⟩ [("self", v), (f, u)]) (he : PE X e te) (hdb : (x == ("__debug__" : Str)) = false := by decide)
    (hs : starEach [e] X.env = (false, eval e X.env) :: starEach [] X.env := by rfl) : PE X (.Call (.Name x p) [e] [] pos) (tXmk C f te) := by
  refine ⟨fun pins s σ H Q I h => ?_⟩
  refine wpAny_Call_Name_kw (ld_glob I hg gC ?_ hdb)
  refine PySem.W.callWith_K (h₀ := X.base) I.ok.mod.kin T.kC ?_ hs (by rfl)
  rw [hs]
  show wpAny _ _ (spliced ((false, eval e X.env) :: backTo pos (starEach [] X.env))) _ _ s
  refine Calls.spliced_cons (thn (he.run pins s σ H _ I h) fun u s1 ⟨y, H1, I1, r1, q1⟩ => ?_)
  refine Calls.spliced_nil ⟨I1.kIn, ?_⟩
  show wpAny _ _ (call (.ref C) [u]) _ _ _
  obtain ⟨nm, N, qn, bs, bm, hdct, sn, sub, ab, col, dd, k0, k1, k2, k3, k5, hC, same⟩ := PySem.W.excInit_of I1.kIn T.ini
  obtain ⟨hp, g, d, t, os⟩ := s1
  obtain ⟨lk, bn⟩ := xc_looks (M := model X.prog X.w) T I1.kIn
  exact wpAny_call (PySem.HandSPX.call_own FB same hC lk bn (by show 1 ≤ sizeLine; rw [sizeLine_eq]; omega) (xc_made (args := ⟨[.ref (hp.objs.size + 1), u], []⟩) T F1 hr I1 r1 (hr.make C [u] []) (fun s H z => z.make C [u] []) (fun s _ => bd s _ _) q1))
theorem pe_xcK {kws : List Keyword} {tk : TA} (FB : ExcBaseFacts B newId initId bmB) (T : XC X.K C fI f newId bmB) (F1 : FnOk X.prog X.w X.K X.mg X.base CX0 1 fI fd ["self", f] (spInit C f)) (hr : Room 2 X.A) (gC : X.mg x = some (.ref C)) (hg : Gl X x)
    (bd : ∀ (s : Shared) (v u : Value), BindsTo s fd ⟨[v], [(f, u)]⟩ [("self", v), (f, u)]) (hkw : PK X kws tk)
    (hall : (backToKw pos (keywordEach kws X.env)).all (·.1.isSome) = true := by rfl) (hks : (backToKw pos (keywordEach kws X.env)).filterMap (·.1) = [f] := by rfl) (hdb : (x == ("__debug__" : Str)) = false := by decide)
    (hpl : ((backTo pos (starEach [] X.env)).any (·.1) || (backToKw pos (keywordEach kws X.env)).any (·.1.isNone)) = false := by rfl) :
    PE X (.Call (.Name x p) [] kws pos) (fun σ H Q => tk σ H fun ys H1 => ∃ y, ys = [y] ∧ ∀ a dx, H1 a = none → H1 dx = none → dx ≠ a → Q (.ref a) (laidX H1 a dx C f y)) := by
  refine ⟨fun pins s σ H Q I h => ?_⟩
  refine wpAny_Call_Name_kw (ld_glob I hg gC ?_ hdb)
  refine PySem.W.callWith_KW0 (h₀ := X.base) I.ok.mod.kin T.kC hall ?_ hpl
  refine thn (hkw.run pos pins s σ H _ I h) fun ws s1 ⟨ys, H1, I1, rz, y, ey, q1⟩ => ⟨I1.kIn, ?_⟩
  rw [hks]
  subst ey
  cases rz with
  | @cons _ u _ _ r1 rn =>
    cases rn
    show wpAny _ _ (call (.ref C) [] [(f, u)]) _ _ _
    obtain ⟨nm, N, qn, bs, bm, hdct, sn, sub, ab, col, dd, k0, k1, k2, k3, k5, hC, same⟩ := PySem.W.excInit_of I1.kIn T.ini
    obtain ⟨hp, g, d, t, os⟩ := s1
    obtain ⟨lk, bn⟩ := xc_looks (M := model X.prog X.w) T I1.kIn
    exact wpAny_call (kw_called FB same hC lk bn (xc_made (args := ⟨[.ref (hp.objs.size + 1)], [(f, u)]⟩) T F1 hr I1 r1 (hr.make C [] [(f, u)]) (fun s H z => z.make C [] [(f, u)]) (fun s _ => bd s _ _) q1))
end

/-! ### e.f, isinstance(e, ..) of such an exception -/
structure FldC (K : PySem.W.Frag) (C : Addr) (f : Str) : Prop where
  ga : PySem.W.findIn K (.ref C) "__getattribute__" = some (some (.builtin "BaseException.__getattribute__"))
  gg : PySem.W.findIn K (.ref C) "__getattr__" = some none
  exB : PySem.W.subIn K (.ref C) (.type "BaseException") = some true
  hd : PySem.W.hasDictIn K C = true
  noF : PySem.W.findIn K (.ref C) f = some none
structure IsC (K : PySem.W.Frag) (C : Addr) : Prop where
  cl : (PySem.W.clsIn K C).isSome = true
  ga : PySem.W.findIn K (.ref C) "__getattribute__" = some (some (.builtin "BaseException.__getattribute__"))
  gg : PySem.W.findIn K (.ref C) "__getattr__" = some none
  exB : PySem.W.subIn K (.ref C) (.type "BaseException") = some true
  ha : PySem.W.findIn K (.ref C) "__class__" = some (some (.builtin "object.__class__"))
  hn : PySem.W.specialIn K (.builtin "object.__class__") "__get__" = some (some (.builtin "getset_descriptor.__get__"))
  ht : PySem.W.takesIn K (.builtin "object.__class__") = some true
  hm : PySem.W.mroIn K C (.type "object") = some true
section
variable {X : Cx} {pins : List (Addr × Obj)} {σ : L2.St} {H : Hp} {s : Shared} {C a : Addr} {f : Str} {y : V} {te : TE} {e : Expr} {pos : Pos}
theorem xe_inst (I : Inv X pins σ H s) (x : XE H a C f y) : ∃ oe od u, PySem.W.InstAt s.heap a oe C (some od) ∧ PySem.W.lookIn f od = some (some u) ∧ RelV y u := by
  obtain ⟨dx, e1, e2⟩ := x
  obtain ⟨t1, ho⟩ := exo_at I.hok e1
  obtain ⟨mA, hns, rel⟩ := exd_at I.hok e2
  obtain ⟨od, hod, hl⟩ := lookIn_ns hns
  have z : List.lookup f [(f, y)] = some y := by simp [List.lookup]
  obtain ⟨u, hu, ru⟩ := RelO.some_of (v := y) (o := mA f) (by rw [← z]; exact rel f)
  exact ⟨_, od, u, ⟨ho, rfl, rfl, hod⟩, by rw [hl, hu], ru⟩
def tXget (K : PySem.W.Frag) (f : Str) (te : TE) : TE := fun σ H Q => te σ H fun x H1 => ∃ (a C : Addr) (y : V), x = .ref a ∧ FldC K C f ∧ XE H1 a C f y ∧ Q y H1
theorem pe_xget (he : PE X e te) (hb : attributeBase e f X.env (eval e X.env) = eval e X.env := by rfl) : PE X (.Attribute e f pos) (tXget X.K f te) := by
  refine ⟨fun pins s σ H Q I h => ?_⟩
  refine attr_of hb (thn (he.run pins s σ H _ I h) fun u s1 ⟨x, H1, I1, rx, a, C, y, ex, T, xe, q⟩ => ?_)
  subst ex
  obtain rfl : u = Value.ref a := rx
  obtain ⟨oe, od, w, J, l, rw'⟩ := xe_inst I1 xe
  exact HandSPX.exc_get I1.kIn J T.ga T.gg T.exB (PySem.W.findObj_own T.hd T.noF rfl l) (handed_of rw') ⟨y, H1, I1.tok _, rw', q⟩
def rXis (K : PySem.W.Frag) : List V → Hp → VK → Prop := fun xs H Q => ∃ (a C : Addr) (f : Str) (y c : V) (u : Value) (b : Bool), xs = [.ref a, c] ∧ ClsV c u ∧ IsC K C ∧ XE H a C f y ∧ PySem.W.kitOne K (.ref C) u = some b ∧ Q (.bl b) H
def rXisT (K : PySem.W.Frag) : List V → Hp → VK → Prop := fun xs H Q => ∃ (a C tp : Addr) (f : Str) (y : V) (cs : List V) (us : List Value) (b : Bool), xs = [.ref a, .ref tp] ∧ H tp = some (.tup cs) ∧ Paired ClsV cs us ∧ IsC K C ∧ XE H a C f y ∧ PySem.W.kitAny K (.ref C) us = some b ∧ Q (.bl b) H
theorem call_xis : CallR X (.builtin "isinstance") (rXis X.K) := by
  intro pins s σ H xs us Q I r h
  obtain ⟨a, C, f, y, c, u, b, rfl, k, T, xe, e, q⟩ := h
  obtain ⟨u1, u2, rfl, r1, r2⟩ := vals2 r
  obtain rfl : u1 = Value.ref a := r1
  have e2 := k.eq r2
  subst e2
  obtain ⟨oe, od, w, J, l, rw'⟩ := xe_inst I xe
  exact PySem.W.kia_one (PySem.W.kitx_exc T.cl T.ga T.gg T.exB T.ha T.hn T.ht T.hm) I.kIn J e (fun z => nomatch z) fun tk => ⟨.bl b, H, I.tok tk, rfl, q⟩
theorem call_xisT : CallR X (.builtin "isinstance") (rXisT X.K) := by
  intro pins s σ H xs us Q I r h
  obtain ⟨a, C, tp, f, y, cs, ws, b, rfl, hT, k, T, xe, e, q⟩ := h
  obtain ⟨u1, u2, rfl, r1, r2⟩ := vals2 r
  obtain rfl : u1 = Value.ref a := r1
  cases (show u2 = Value.ref tp from r2)
  obtain ⟨oe, od, w, J, l, rw'⟩ := xe_inst I xe
  obtain ⟨_, its, rv, o, h1, h2, n, h3⟩ := (show ObjOk X.prog X.w H s.heap tp (.tup cs) from I.hok tp _ hT)
  have e3 := ClsV.all k rv
  subst e3
  obtain ⟨oc, od', dt, sl⟩ := o
  simp only at h2 h3
  subst h2 h3
  exact PySem.W.kia_tup (PySem.W.kitx_exc T.cl T.ga T.gg T.exB T.ha T.hn T.ht T.hm) I.kIn J h1 e (fun z => nomatch z) fun tk => ⟨.bl b, H, I.tok tk, rfl, q⟩
end
end Ms
namespace Ms
open PySem PySem.Spec PyProof.Rows L2
/-! ### raise C(e), C over LookupError or OverflowError, with one field -/
theorem laid_one {C : Addr} {f : Str} {H1 : Hp} {y : V} {a dx : Addr} (ha : H1 a = none) (h1 : (upd H1 a (exo a C none)) dx = none) (h2 : dx ≠ a) :
    H1 dx = none ∧ laidX (upd H1 a (exo a C none)) a dx C f y a = some (exo a C (some dx)) ∧ laidX (upd H1 a (exo a C none)) a dx C f y dx = some (exd dx [(f, y)]) ∧
    Same H1 (upd (del (laidX (upd H1 a (exo a C none)) a dx C f y) a) dx (.xd [(f, y)])) := by
  have hd : H1 dx = none := by rw [upd_ne h2] at h1; exact h1
  refine ⟨hd, upd_same, by unfold laidX; rw [upd_ne h2, upd_same], fun b o e => ?_⟩
  unfold laidX
  rw [upd_ne (ne_of_none e hd), del_ne (ne_of_none e ha), upd_ne (ne_of_none e ha), upd_ne (ne_of_none e hd), upd_ne (ne_of_none e ha)]
  exact e
section
variable {X : Cx} {C fI : Addr} {f x : Str} {B newId initId : String} {bmB : List Value} {fd : FuncData} {te : TE} {e : Expr} {p pos : Pos}
theorem pmk_xc (FB : ExcBaseFacts B newId initId bmB) (T : XC X.K C fI f newId bmB) (hex : PySem.W.subIn X.K (.ref C) (.type "BaseException") = some true) (hty : PySem.W.typeIn X.K (.ref C) = some (.type "type"))
    (F1 : FnOk X.prog X.w X.K X.mg X.base CX0 1 fI fd ["self", f] (spInit C f)) (hr : Room 2 X.A) (gC : X.mg x = some (.ref C)) (hg : Gl X x)
    (bd : ∀ (s : Shared) (v u : Value), BindsTo s fd ⟨[v, u], []⟩ [("self", v), (f, u)]) (he : PE X e te) (hdb : (x == ("__debug__" : Str)) = false := by decide)
    (hs : starEach [e] X.env = (false, eval e X.env) :: starEach [] X.env := by rfl) :
    PMk X (.Call (.Name x p) [e] [] pos) (fun σ H Q => te σ H fun y H1 => ∀ d H', H1 d = none → Same H1 H' → H' d = some (.xd [(f, y)]) → Q (.ref C) (some d) H') := by
  intro pins s σ H Q I h
  refine wpAny_Call_Name_kw (ld_glob I hg gC ?_ hdb)
  refine PySem.W.callWith_K (h₀ := X.base) I.ok.mod.kin T.kC ?_ hs (by rfl)
  rw [hs]
  show wpAny _ _ (spliced ((false, eval e X.env) :: backTo pos (starEach [] X.env))) _ _ s
  refine Calls.spliced_cons (thn (he.run pins s σ H _ I h) fun u s1 ⟨y, H1, I1, r1, q1⟩ => ?_)
  refine Calls.spliced_nil ⟨I1.kIn, ?_⟩
  show wpAny _ _ (call (.ref C) [u]) _ _ _
  obtain ⟨nm, N, qn, bs, bm, hdct, sn, sub, ab, col, dd, k0, k1, k2, k3, k5, hC, same⟩ := PySem.W.excInit_of I1.kIn T.ini
  obtain ⟨hp, g, dr, tk, os⟩ := s1
  obtain ⟨lk, bn⟩ := xc_looks (M := model X.prog X.w) T I1.kIn
  have hsz : hp.objs.size ≤ hp.objs.size + 1 := Nat.le_succ _
  have hn : H1 (hp.objs.size + 1) = none := I1.hok.fresh hsz
  have kk : ∀ b o, hp.get? b = some o → ((hp.push (PySem.W.kdv_tup [u])).push (PySem.HandSPX.excO C hp.objs.size)).get? b = some o := fun b o e => Heap.get?_push_of_some _ (Heap.get?_push_of_some _ e)
  have hget : ((hp.push (PySem.W.kdv_tup [u])).push (PySem.HandSPX.excO C hp.objs.size)).get? (hp.objs.size + 1) = some (PySem.HandSPX.excO C hp.objs.size) := by heap_get
  have I2 : Inv X pins σ (upd H1 (hp.objs.size + 1) (exo (hp.objs.size + 1) C none)) ⟨(hp.push (PySem.W.kdv_tup [u])).push (PySem.HandSPX.excO C hp.objs.size), g, dr, tk, os⟩ :=
    I1.laid (t' := tk) (a := hp.objs.size + 1) (o := exo (hp.objs.size + 1) C none) (h' := (hp.push (PySem.W.kdv_tup [u])).push (PySem.HandSPX.excO C hp.objs.size)) kk hsz (exo_ok hget)
  refine wpAny_call (PySem.HandSPX.call_own FB same hC lk bn (by show 1 ≤ sizeLine; rw [sizeLine_eq]; omega)
    (codeAny_mono (F1.run _ X.stack _ _ ⟨[.ref (hp.objs.size + 1), u], []⟩ [.ref (hp.objs.size + 1), u] [.ref (hp.objs.size + 1), y]
      (fun v H2 => v = .non ∧ ∃ dx, H1 dx = none ∧ H2 (hp.objs.size + 1) = some (exo (hp.objs.size + 1) C (some dx)) ∧ H2 dx = some (exd dx [(f, y)]) ∧ Q (.ref C) (some dx) (upd (del H2 (hp.objs.size + 1)) dx (.xd [(f, y)]))) (fun _ _ _ => False) (hr.make C [u] []) (I2.env0.make C [u] []) (bd _ _ _) (.cons rfl (.cons r1 .nil)) ?_) fun r s' hq' => ?_))
  · refine ⟨_, y, rfl, upd_same, fun dx n ne => ⟨rfl, ?_⟩⟩
    obtain ⟨h1, h2, h3, h4⟩ := laid_one (f := f) (y := y) hn n ne
    exact ⟨dx, h1, h2, h3, q1 dx _ h1 h4 upd_same⟩
  · cases r with
    | error er => exact False.elim hq'
    | ok fl =>
      cases fl with
      | ret u =>
        obtain ⟨v, H2, os2, bare2, un2, hok2, rv, ev, d, hd1, ea, ed, q2⟩ := hq'
        subst ev
        obtain ⟨h2, g2, d2, t2, os'⟩ := s'
        exact ⟨rv, mk_end (raises_own hex hty) I1 hsz kk un2 hok2 os2 bare2 ea ed hd1 q2⟩
      | next => exact False.elim hq'
      | brk => exact False.elim hq'
      | cont => exact False.elim hq'
end
end Ms
namespace Ms
open PySem PySem.Spec PyProof.Rows L2 StX
/-! ### Request.keeping -/
def kLook (ks : List Str) (es : List PyData) (z : Str) : Option PyData := ((ks.zip es).find? fun p => decide (p.1 = z)).map (·.2)
/-- the modes that come of it -/
def keptD (ks : List Str) (es : List PyData) (names olds : List Str) : List PyData := (names.zip olds).map fun p => (kLook ks es p.1).getD (.str p.2)
theorem kw_look {K : PySem.W.Frag} {H : Hp} {m l : Addr} (z : Str) : ∀ {ks : List Str} {zs : List V} {es : List PyData}, DqAll K H m l zs es →
    (valV (kwD ks zs) (.inr z : Key) = none ∧ kLook ks es z = none) ∨ ∃ v d, valV (kwD ks zs) (.inr z : Key) = some v ∧ kLook ks es z = some d ∧ Dq K H m l v d
  | [], _, _, _ => .inl ⟨rfl, rfl⟩
  | _ :: _, _, _, .nil => .inl ⟨rfl, rfl⟩
  | k :: ks, v :: zs, d :: es, .cons h t => by
    by_cases e : k = z
    · refine .inr ⟨v, d, ?_, ?_, h⟩
      · exact valV_pos (p := ((Sum.inr k : Key), v)) (by rw [e])
      · unfold kLook
        rw [List.zip_cons_cons, List.find?_cons, decide_eq_true e]; rfl
    · have e1 : valV (kwD (k :: ks) (v :: zs)) (.inr z : Key) = valV (kwD ks zs) (.inr z : Key) := valV_neg (p := ((Sum.inr k : Key), v)) (fun q => e (Sum.inr.inj q))
      have e2 : kLook (k :: ks) (d :: es) z = kLook ks es z := by
        unfold kLook
        rw [List.zip_cons_cons, List.find?_cons, decide_eq_false e]
      rw [e1, e2]
      exact kw_look z t
theorem kwD_get {ks : List Str} {zs : List V} {i : Nat} {k : Key} {v : V} (h : (kwD ks zs)[i]? = some (k, v)) : ∃ z, ks[i]? = some z ∧ k = .inr z ∧ zs[i]? = some v := by
  unfold kwD at h
  rw [List.getElem?_map] at h
  cases e : (ks.zip zs)[i]? with
  | none => rw [e] at h; cases h
  | some p =>
    rw [e] at h
    obtain ⟨h1, h2⟩ := List.getElem?_zip_eq_some.mp e
    cases h
    exact ⟨p.1, h1, rfl, h2⟩
theorem kwD_len {ks : List Str} {zs : List V} (h : zs.length = ks.length) : (kwD ks zs).length = ks.length := by
  unfold kwD
  rw [List.length_map, List.length_zip]; omega
/-- the first key that is no name -/
def firstNo (names ks : List Str) : Option Str := ks.find? fun z => !decide (z ∈ names)
/-- the first key whose value is no mode -/
def firstOdd (ks : List Str) (es : List PyData) : Option Str := ((ks.zip es).find? fun p => !isMode p.2).map (·.1)
def spKeep (K : PySem.W.Frag) (C CM CI : Addr) (ks : List Str) : Sp := fun vs H Q E => ∃ (H0 : Hp) (m l x dx d pS : Addr) (xs : List V) (ys : List (Str × Int)) (vP vM : V) (dP : PyData) (olds : List Str) (zs : List V) (es : List PyData),
  vs = [.ref x, .ref d] ∧ H0 d = none ∧ Same H0 H ∧ H d = some (.dK (kwD ks zs)) ∧ H0 x = some (.ins C dx (reqF (.ref pS) vP vM)) ∧ SetOk ys ∧ SqT K H0 pS xs ∧ DqAll K H0 m l xs (prD ys) ∧ Dq K H0 m l vP dP ∧ Gd big 100000 3 dP ∧ placesV ys dP = none ∧
  Dq K H0 m l vM (.tuple (olds.map .str)) ∧ olds.length = ys.length ∧ (∀ z ∈ olds, z ∈ (["live", "met", "begin"] : List Str)) ∧ DqAll K H0 m l zs es ∧ zs.length = ks.length ∧ ks.length ≤ 900 ∧
  (∀ z, firstNo (ys.map (·.1)) ks = some z → ∀ e H', H0 e = none → Same H0 H' → H' e = some (.xd [("name", .str z)]) → E (.ref CI) (some e) H') ∧
  (firstNo (ys.map (·.1)) ks = none → (∀ z, firstOdd ks es = some z → ∀ e H', H0 e = none → Same H0 H' → H' e = some (.xd [("place", .str z)]) → E (.ref CM) (some e) H') ∧
    (firstOdd ks es = none → ∀ x' dx' v3 H', Same H0 H' → H0 x' = none → H' x' = some (.ins C dx' (reqF (.ref pS) vP v3)) → Dq K H' m l v3 (.tuple (keptD ks es (ys.map (·.1)) olds)) → Q (.ref x') H'))
theorem strs_ofK {K : PySem.W.Frag} {H : Hp} {m l : Addr} : ∀ {zs : List Str} {xs : List V}, DqAll K H m l xs (zs.map .str) → xs = zs.map V.str
  | [], _, h => by cases h; rfl
  | z :: zs, _, h => by
    cases h with
    | cons h1 h2 => cases h1; rw [strs_ofK h2]; rfl
theorem strs_ex {p : Str → Prop} : ∀ {ds : List PyData}, (∀ d ∈ ds, ∃ y, d = .str y ∧ p y) → ∃ zs : List Str, ds = zs.map .str ∧ ∀ z ∈ zs, p z
  | [], _ => ⟨[], rfl, fun z h => nomatch h⟩
  | d :: ds, h => by
    obtain ⟨y, rfl, py⟩ := h d (List.mem_cons_self ..)
    obtain ⟨zs, rfl, pz⟩ := strs_ex (ds := ds) fun x hx => h x (List.mem_cons_of_mem _ hx)
    exact ⟨y :: zs, rfl, fun z hz => by
      rcases List.mem_cons.mp hz with rfl | hz
      · exact py
      · exact pz z hz⟩
theorem spots_goodK {ys : List (Str × Int)} (so : SetOk ys) : Gd (10 ^ 31) 600 2 (.tuple (prD ys)) := by
  have key : ∀ ys : List (Str × Int), okP ys → Gl' big (123 * ys.length) 1 (prD ys) := by
    intro ys
    induction ys with
    | nil => exact fun _ => ⟨(fun d h => nomatch h), Nat.le_refl _, (fun d h => nomatch h)⟩
    | cons q ys ih =>
      intro h
      obtain ⟨h1, h2, h3⟩ := h q (List.mem_cons_self ..)
      have g1 : Gd big 16 0 (.str q.1) := Gd.str h1
      have g2 : Gd big 104 0 (.int q.2) := Gd.int (by show q.2.natAbs ≤ 10 ^ 30; omega) (by decide)
      have g := Gd.tup ((Gl'.one g1).app (Gl'.one g2))
      have r := (Gl'.one g).app (ih fun x hx => h x (List.mem_cons_of_mem _ hx))
      exact r.mono (Nat.le_refl _) (by simp only [List.length_cons]; omega) (Nat.le_refl _)
  have := so.len3
  exact (Gd.tup (key ys so.okP)).mono (by decide) (by omega) (Nat.le_refl _)
abbrev NKp : List Str := ["self", "modes", "names", "name", "mode", "kept"]
theorem scKp : FnScope NKp ["self", "modes"] (defScope sReqKeep) := ⟨rfl, rfl, rfl, by decide +kernel, rfl, by decide +kernel, by decide +kernel⟩
theorem firstNo_drop {names ks : List Str} {i : Nat} {z : Str} (hz : ks[i]? = some z) : firstNo names (ks.drop i) = if z ∈ names then firstNo names (ks.drop (i + 1)) else some z := by
  have hi : i < ks.length := (List.getElem?_eq_some_iff.mp hz).1
  have e : ks.drop i = z :: ks.drop (i + 1) := by
    rw [List.drop_eq_getElem_cons hi, (List.getElem?_eq_some_iff.mp hz).2]
  rw [e]
  unfold firstNo
  rw [List.find?_cons]
  by_cases h : z ∈ names
  · rw [if_pos h, decide_eq_true h]; rfl
  · rw [if_neg h, decide_eq_false h]; rfl
theorem firstOdd_drop {ks : List Str} {es : List PyData} {i : Nat} {z : Str} {e : PyData} (hz : ks[i]? = some z) (he : es[i]? = some e) : firstOdd (ks.drop i) (es.drop i) = if isMode e = true then firstOdd (ks.drop (i + 1)) (es.drop (i + 1)) else some z := by
  have hi : i < ks.length := (List.getElem?_eq_some_iff.mp hz).1
  have hi2 : i < es.length := (List.getElem?_eq_some_iff.mp he).1
  have e1 : ks.drop i = z :: ks.drop (i + 1) := by
    rw [List.drop_eq_getElem_cons hi, (List.getElem?_eq_some_iff.mp hz).2]
  have e2 : es.drop i = e :: es.drop (i + 1) := by
    rw [List.drop_eq_getElem_cons hi2, (List.getElem?_eq_some_iff.mp he).2]
  rw [e1, e2]
  unfold firstOdd
  rw [List.zip_cons_cons, List.find?_cons]
  by_cases h : isMode e = true
  · rw [if_pos h, h]; rfl
  · rw [if_neg h]
    have : isMode e = false := by simpa using h
    rw [this]; rfl
theorem inV_strs (z : Str) (names : List Str) : inV (.str z) (names.map V.str) = decide (z ∈ names) := inV_str z names
/-- words come of words -/
theorem kept_modes {ks : List Str} {es : List PyData} {names olds : List Str} (ho : firstOdd ks es = none) (hz : ∀ z ∈ olds, z ∈ (["live", "met", "begin"] : List Str)) : ∀ d ∈ keptD ks es names olds, ∃ y, d = .str y ∧ y ∈ (["live", "met", "begin"] : List Str) := by
  intro d hd
  obtain ⟨p, hp, rfl⟩ := List.mem_map.mp hd
  cases e : kLook ks es p.1 with
  | none => exact ⟨p.2, rfl, hz _ (List.of_mem_zip hp).2⟩
  | some d =>
    unfold kLook at e
    obtain ⟨q, hq, rfl⟩ := Option.map_eq_some_iff.mp e
    have hm := List.mem_of_find?_eq_some hq
    have : isMode q.2 = true := by
      unfold firstOdd at ho
      have h := List.find?_eq_none.mp (Option.map_eq_none_iff.mp ho) q hm
      simpa using h
    show ∃ y, q.2 = .str y ∧ _
    cases eq : q.2 with
    | str y =>
      rw [eq] at this
      exact ⟨y, rfl, of_decide_eq_true this⟩
    | _ => rw [eq] at this; cases this
section
variable {P : Program} {w : World} {K : PySem.W.Frag} {mg : Str → Option Value} {base : Heap} {fI fN fS fA fG fNu fAs fPl fMo fNP fNM fNd aE aM C CS CP CM CI fR fEM fEI : Addr} {B newId initId : String} {bmB : List Value}
theorem ok_keep {f : Addr} {fd fdA fdMo fdEM fdEI fdR : FuncData} {ks : List Str} (F : Fun K "keeping" "Request.keeping" sReqKeep f fd) (T : TxtR mg fI fN fS fA fG fNu fAs fPl fMo fNP fNM fNd aE aM) (W : WrT K aE aM) (RC : ReqC K C) (M : Mk K C fR) (hzip : mg "zip" = none) (gR : mg "Request" = some (.ref C))
    (GR : FnOk P w K mg base (L2.CX P w) 6 fR fdR psS (spReq K C CS CP CM)) (b4 : Binds K fdR psS [])
    (FA : Fun K "names_of" "names_of" sPNames fA fdA) (bA : Binds K fdA ["settings"] []) (FMo : Fun K "is_mode" "is_mode" sPMode fMo fdMo) (bMo : Binds K fdMo ["thing"] [])
    (gM : mg "BadModes" = some (.ref CM)) (TM : ErrC K CM fEM) (GEM : FnOk P w K mg base CX0 1 fEM fdEM ["self", "place"] (spIni CM)) (bEM : Binds K fdEM ["self", "place"] [])
    (gI : mg "Missing" = some (.ref CI)) (FB : ExcBaseFacts B newId initId bmB) (TX : XC K CI fEI "name" newId bmB) (exI : PySem.W.subIn K (.ref CI) (.type "BaseException") = some true) (tyI : PySem.W.typeIn K (.ref CI) = some (.type "type"))
    (GX : FnOk P w K mg base CX0 1 fEI fdEI ["self", "name"] (spInit CI "name")) (bdI : ∀ (s : Shared) (v u : Value), BindsTo s fdEI ⟨[v, u], []⟩ [("self", v), ("name", u)])
    (hn : ks.Nodup) (hk : ks.length ≤ 900)
    (hb : ∀ (kV doc pm : Value) (an : Option Addr) (cdv ct : Value) (u : Value) (ws : List Value), ws.length = ks.length → bindArgs (PySem.W.fnOf "keeping" "Request.keeping" (defArgs sReqKeep) (defBody sReqKeep) (defScope sReqKeep) .none kV doc pm an cdv ct) ⟨[u], ks.zip ws⟩ =
      ((alloc ({ cls := .type "dict", data := .dict #[] } : Obj) : Sem Addr) >>= fun d => (forIn (ks.zip ws) PUnit.unit fun x _ => (nsSet d x.1 x.2 >>= fun _ => pure (ForInStep.yield PUnit.unit))) >>= fun _ => pure [(("self" : Str), u), (("modes" : Str), Value.ref d)])) :
    FnKw P w K mg base (L2.CX P w) 8 f ks (spKeep K C CM CI ks) := by
  obtain ⟨oc, od, kV, doc, pm, an, cdv, ct, osl, efd, lk, hcd⟩ := F.ex
  subst efd
  have GA : FnOk P w K mg base CX0 1 fA fdA ["settings"] (spPNames K) := ok_pnames FA
  have GMo : FnOk P w K mg base CX0 1 fMo fdMo ["thing"] (spMode K) := ok_mode FMo T W
  refine fn_kw (k := 7) lk hcd scKp cxUp hn (by omega) (hb _ _ _ _ _ _) (fun A outer s H vs Q E hr h => ?_)
  obtain ⟨H0, m, l, x, dx, d, pS, xs, ys, vP, vM, dP, olds, zs, es, rfl, hd0, s0, hd, hx, so, hS, hsd, hP, gP, pno, hM, lo, hz, hzs, lz, _, qI, q⟩ := h
  have hr1 : Room 1 _ := hr.mono (by decide)
  have hr2 : Room 2 _ := hr.mono (by decide)
  have hu : (A.deeper (envOfC "Request.keeping" (defScope sReqKeep) s.heap.objs.size f cdv)).units + 1 < cLine := Nat.lt_of_le_of_lt (Nat.add_le_add_left (by decide : 1 ≤ 64) _) hr.units
  refine ⟨_, pss_cons (ps_set (i := 2) scKp.nd rfl (by first | exact Or.inl rfl | exact Or.inr rfl) (pe_call GA hr1 rfl T.gA FA.kp bA .nil pass0 (pa_cons (pe_fld (pv 0) rfl) pa_nil)))
    (pss_cons (ps_lock (ps_for (passes_of rfl) rfl (pi_keys (pv 1)) (pg_name (i := 3) scKp.nd rfl (by first | exact Or.inl rfl | exact Or.inr rfl))
      (pss_one (ps_if (pt_cmpR op_notIn_seq (pv 3) (pv 2) (by rfl)) (pss_one (ps_raise rfl (takes_of rfl rfl rfl rfl) (pmk_xc FB TX exI tyI GX hr2 gI (by rfl) bdI (pv 3)))) pss_nil))))
    (pss_cons (ps_lock (ps_for (passes_of rfl) rfl (pi_items (pv 1)) (pg_tup rfl (pgs_cons (pg_name (i := 3) scKp.nd rfl (by first | exact Or.inl rfl | exact Or.inr rfl)) (pgs_cons (pg_name (i := 4) scKp.nd rfl (by first | exact Or.inl rfl | exact Or.inr rfl)) pgs_nil)))
      (pss_one (ps_if (pt_not (pt_val (pe_call GMo hr1 rfl T.gMo FMo.kp bMo .nil pass0 (pa_cons (pv 4) pa_nil))))
        (pss_one (ps_raise rfl (takes_of rfl rfl rfl rfl) (pmk_oex TM.ox TM.ini TM.ty GEM hr2 bEM .nil pass0 (by rfl) gM (pa_cons (pv 3) pa_nil)))) pss_nil))))
    (pss_cons (ps_set (i := 5) scKp.nd rfl (by first | exact Or.inl rfl | exact Or.inr rfl) (pe_callTy call_tuple_of (by rfl) T.tuple (by decide +kernel) (pa_cons (pe_lc (own := [("name", 3), ("mode", 4)]) (g := gTup K 2 (gCons (gName 3) (gCons (gName 4) gNil))) (by rfl) scKp.nd
        (pi_zm (by rfl) hzip (pa_cons (pv 2) (pa_cons (pe_fld (pv 0) rfl) pa_nil)))
        (blkOk_by (own := [("name", 3), ("mode", 4)]) (N := NKp) (sc := defScope sReqKeep) (by decide +kernel))
        (fun _ _ _ _ _ => pg_tup rfl (pgs_cons (pg_name (i := 3) scKp.nd rfl (Or.inl rfl)) (pgs_cons (pg_name (i := 4) scKp.nd rfl (Or.inl rfl)) pgs_nil))) (fun _ _ _ _ _ => pts_nil)
        (fun _ _ _ _ _ => pe_dget2 (by exact hu) (pv 1) (pv 3) (pv 4) ⟨rfl, rfl, rfl, rfl⟩)) pa_nil)))
    (pss_one (ps_ret (pe_make M GR hr (by rfl) gR b4 .nil (passes_call (takes_of rfl rfl rfl rfl) fun _ _ _ _ h => h) (pa_cons (pe_fld (pv 0) rfl) (pa_cons (pe_fld (pv 0) rfl) (pa_cons (pv 5) pa_nil))))))))), ?_⟩
  have l1 := so.len1
  have l3 := so.len3
  have hxd : x ≠ d := ne_of_none hx hd0
  refine ⟨_, rfl, x, C, dx, _, _, rfl, s0 _ _ hx, RC.cl, RC.nS, rfl, ?_⟩
  refine ⟨pS, xs, ys, rfl, Same.seqT s0 hS, prD_trs (m := m) (l := l) ys _ (DqAll.same s0 _ _ hsd), by omega, fun N hN H1 s1 gN => ?_⟩
  have s01 := s0.trans s1
  have gd1 := s1 _ _ hd
  have nNd : N ≠ d := fun e => by subst e; rw [hN] at hd; cases hd
  refine ⟨d, .dK (kwD ks zs), gd1, trivial, fun od => ⟨_, rfl, d, od, rfl, .inl ⟨_, upd_same, ?_⟩⟩⟩
  have sF : ∀ {u : HO} {G : Hp}, Same H0 G → Same H0 (upd G d u) := fun {u G} s b o e => by rw [upd_ne (ne_of_none e hd0)]; exact s _ _ e
  refine for_it walk_keys (fun i σ H3 => ∃ v3, σ = [some (.ref x), some (.ref d), some (.ref N), v3, none, none] ∧ H3 = upd H1 d (.frz od (.dK (kwD ks zs))) ∧ firstNo (ys.map (·.1)) ks = firstNo (ys.map (·.1)) (ks.drop i)) ⟨none, rfl, rfl, rfl⟩ (fun i σ H3 _ ⟨_, _, e3, _⟩ => by rw [e3]; exact upd_same) ?_ ?_
  · rintro i x1 σ H3 H4 hi ⟨v3, rfl, rfl, dg⟩ ⟨rfl, k, v, hkv, rfl⟩
    obtain ⟨z, hzk, rfl, _⟩ := kwD_get hkv
    rw [firstNo_drop hzk] at dg
    have gN3 : (upd H1 d (.frz od (.dK (kwD ks zs)))) N = some (.lst ((ys.map (·.1)).map V.str)) := by rw [upd_ne nNd]; exact gN
    refine ⟨_, rfl, _, rfl, N, _, rfl, .inl (SqL.of gN3), rfl, (by simp [flatV]), ?_⟩
    rw [if_pos rfl]
    refine ⟨_, rfl, ?_⟩
    have ei : inV (L2.kV (.inr z)) ((ys.map (·.1)).map V.str) = decide (z ∈ ys.map (·.1)) := inV_strs z _
    rw [ei]
    by_cases hm : z ∈ ys.map (·.1)
    · rw [if_pos hm] at dg
      exact ifF (by rw [decide_eq_true hm]; rfl) ⟨_, rfl, rfl, dg⟩
    · rw [if_neg hm] at dg
      refine ifT (by rw [decide_eq_false hm]; rfl) ⟨_, rfl, fun e H' h1 h2 h3 => ?_⟩
      exact qI z dg e H' (Same.free (sF s01) h1) ((sF s01).trans h2) h3
  · rintro σ H3 ⟨v3, rfl, rfl, dg⟩
    have fN0 : firstNo (ys.map (·.1)) ks = none := by
      rw [dg, List.drop_of_length_le (by rw [kwD_len lz]; omega)]; rfl
    obtain ⟨qM, q⟩ := q fN0
    refine ⟨upd_same, ?_⟩
    rw [upd_upd]
    have s2 : Same H0 (upd H1 d (.dK (kwD ks zs))) := sF s01
    have gN2 : (upd H1 d (.dK (kwD ks zs))) N = some (.lst ((ys.map (·.1)).map V.str)) := by rw [upd_ne nNd]; exact gN
    have nN0 : H0 N = none := Same.free s0 hN
    have gd2 : (upd H1 d (.dK (kwD ks zs))) d = some (.dK (kwD ks zs)) := upd_same
    generalize upd H1 d (.dK (kwD ks zs)) = H2 at s2 gN2 gd2 ⊢
    refine ⟨d, .dK (kwD ks zs), gd2, trivial, fun od2 => ⟨_, rfl, d, od2, _, rfl, upd_same, ?_⟩⟩
    refine for_it walk_items (fun i σ H3 => ∃ v3 v4, σ = [some (.ref x), some (.ref d), some (.ref N), v3, v4, none] ∧ H3 d = some (.frz od2 (.dK (kwD ks zs))) ∧ Same H0 H3 ∧ H3 N = some (.lst ((ys.map (·.1)).map V.str)) ∧ firstOdd ks es = firstOdd (ks.drop i) (es.drop i))
      ⟨_, _, rfl, upd_same, sF s2, by rw [upd_ne nNd]; exact gN2, rfl⟩ (fun i σ H3 _ ⟨_, _, _, e3, _⟩ => e3) ?_ ?_
    · rintro i x1 σ H3 H4 hi ⟨v3, v4, rfl, g3, s3, n3, dg⟩ ⟨TT, x1, x2, rfl, hT, rfl, e1, e2⟩
      obtain ⟨⟨k, v⟩, hkv⟩ : ∃ kv, (kwD ks zs)[i]? = some kv := ⟨_, List.getElem?_eq_getElem hi⟩
      obtain ⟨z, hzk, rfl, hv⟩ := kwD_get hkv
      have e1 : Option.map (fun kv : Key × V => L2.kV kv.1) (kwD ks zs)[i]? = some x1 := e1
      have e2 : Option.map Prod.snd (kwD ks zs)[i]? = some x2 := e2
      rw [hkv] at e1 e2
      have ex1 : x1 = .str z := (Option.some.inj e1).symm
      have ex2 : x2 = v := (Option.some.inj e2).symm
      subst ex1 ex2
      obtain ⟨e0, he, dqe⟩ := hzs.get hv
      rw [firstOdd_drop hzk he] at dg
      have sT : Same H3 (upd H3 TT (.tup [.str z, x2])) := Same.upd hT
      have s4 := s3.trans sT
      refine ⟨TT, _, rfl, .inl (.inl upd_same), rfl, _, _, rfl, _, _, rfl, rfl, ?_⟩
      refine ⟨_, rfl, m, l, x2, e0, rfl, Dq.same s4 _ _ dqe, _, rfl, ?_⟩
      cases hb2 : isMode e0 with
      | true =>
        rw [if_pos hb2] at dg
        exact ifF rfl ⟨_, _, rfl, sT _ _ g3, s4, sT _ _ n3, dg⟩
      | false =>
        rw [if_neg (by rw [hb2]; exact Bool.false_ne_true)] at dg
        refine ifT rfl ⟨_, rfl, mk_one fun e H' h1 h2 h3 => qM z dg e H' (Same.free s4 h1) (s4.trans h2) h3⟩
    · rintro σ H3 ⟨v3, v4, rfl, g3, s3, n3, dg⟩
      have lze := hzs.len
      have fO : firstOdd ks es = none := by
        rw [dg, List.drop_of_length_le (by rw [kwD_len lz]; omega)]
        unfold firstOdd
        rfl
      refine ⟨g3, ?_⟩
      have s4 : Same H0 (upd H3 d (.dK (kwD ks zs))) := sF s3
      have gN4 : (upd H3 d (.dK (kwD ks zs))) N = some (.lst ((ys.map (·.1)).map V.str)) := by rw [upd_ne nNd]; exact n3
      have gd4 : (upd H3 d (.dK (kwD ks zs))) d = some (.dK (kwD ks zs)) := upd_same
      generalize upd H3 d (.dK (kwD ks zs)) = H4 at s4 gN4 gd4 ⊢
      obtain ⟨pM, rfl, hMs⟩ : ∃ p, vM = .ref p ∧ SqT K H0 p (olds.map V.str) := by
        cases hM with
        | tup e t => rw [strs_ofK t] at e; exact ⟨_, rfl, e⟩
      refine ⟨_, rfl, _, rfl, x, C, dx, _, _, rfl, s4 _ _ hx, RC.cl, RC.nM, rfl, N, pM, _, _, rfl, SqL.of gN4, Same.seqT s4 hMs, fun D hD => ?_⟩
      have hD0 : H0 D = none := Same.free s4 hD
      have nDd : D ≠ d := fun e => by subst e; rw [gd4] at hD; cases hD
      have ln : ((ys.map (·.1)).map V.str).length = ys.length := by simp
      have lm : (olds.map V.str).length = ys.length := by simp [lo]
      refine lc_it (walk_zm (xs := (ys.map (·.1)).map V.str) (ys := olds.map V.str) (n := ys.length) (by rw [ln, lm]; simp)) (fun i H5 => Same H4 H5 ∧ ∃ acc, H5 D = some (.lst acc) ∧ DqAll K H0 m l acc ((keptD ks es (ys.map (·.1)) olds).take i))
        ⟨Same.upd hD, [], upd_same, by rw [List.take_zero]; exact .nil⟩ (fun i H5 _ ⟨s5, _⟩ => ⟨SqL.of (s5 _ _ gN4), Same.seqT s5 (Same.seqT s4 hMs)⟩) ?_ ?_
      · rintro i x1 H5 H6 hi ⟨s5, acc, gD5, da⟩ ⟨TT, x1, x2, rfl, hT, rfl, e1, e2⟩
        have hi1 : i < (ys.map (·.1)).length := by simpa using hi
        have hi2 : i < olds.length := by omega
        have ex1 : x1 = .str ((ys.map (·.1))[i]) := by
          have e1 : ((ys.map (·.1)).map V.str)[i]? = some x1 := e1
          rw [List.getElem?_map, List.getElem?_eq_getElem hi1] at e1
          exact (Option.some.inj e1).symm
        have ex2 : x2 = .str (olds[i]) := by
          have e2 : (olds.map V.str)[i]? = some x2 := e2
          rw [List.getElem?_map, List.getElem?_eq_getElem hi2] at e2
          exact (Option.some.inj e2).symm
        have hk0 : (keptD ks es (ys.map (·.1)) olds)[i]? = some ((kLook ks es ((ys.map (·.1))[i])).getD (.str (olds[i]))) := by
          unfold keptD
          have ez : ((ys.map (·.1)).zip olds)[i]? = some ((ys.map (·.1))[i], olds[i]) := by
            rw [List.getElem?_zip_eq_some]
            exact ⟨List.getElem?_eq_getElem hi1, List.getElem?_eq_getElem hi2⟩
          rw [List.getElem?_map, ez]; rfl
        generalize (ys.map (·.1))[i] = nm at ex1 hk0
        generalize olds[i] = od0 at ex2 hk0
        subst ex1 ex2
        have sT : Same H5 (upd H5 TT (.tup [.str nm, .str od0])) := Same.upd hT
        have s6 := s5.trans sT
        have la : acc.length ≤ 100 := by
          have h1 := da.len
          rw [List.length_take] at h1
          omega
        have gD6 := sT _ _ gD5
        have gT : (upd H5 TT (.tup [.str nm, .str od0])) TT = some (.tup [.str nm, .str od0]) := upd_same
        generalize upd H5 TT (.tup [.str nm, .str od0]) = H6 at sT s6 gD6 gT ⊢
        have fin : ∀ v, Dq K H0 m l v ((kLook ks es nm).getD (.str od0)) → ∃ acc', H6 D = some (.lst acc') ∧ acc'.length < sizeLine ∧
            (Same H4 (upd H6 D (.lst (acc' ++ [v]))) ∧ ∃ acc2, (upd H6 D (.lst (acc' ++ [v]))) D = some (.lst acc2) ∧ DqAll K H0 m l acc2 ((keptD ks es (ys.map (·.1)) olds).take (i + 1))) := by
          intro v hv
          refine ⟨acc, gD6, small1000 (by omega), fun b o hb => ?_, _, upd_same, ?_⟩
          · rw [upd_ne (ne_of_none hb hD)]; exact s6 _ _ hb
          · rw [List.take_succ, hk0]
            exact DqAll.app da (.cons hv .nil)
        refine ⟨TT, _, rfl, .inl (.inl gT), rfl, _, _, rfl, _, _, rfl, rfl, rfl, tyes ?_⟩
        have dg : DGet H6 d (.str nm) (valV (kwD ks zs) (.inr nm : Key)) := DGet.k (k := .inr nm) (s6 _ _ gd4)
        rcases kw_look (K := K) (H := H0) (m := m) (l := l) nm hzs with ⟨e3, e4⟩ | ⟨v, dd, e3, e4, dq⟩
        · rw [e3] at dg
          rw [e4] at fin
          exact ⟨_, rfl, d, rfl, .inl ⟨_, .inl (s6 _ _ gd4)⟩, _, rfl, _, rfl, _, dg, fin _ (.str _)⟩
        · rw [e3] at dg
          rw [e4] at fin
          exact ⟨_, rfl, d, rfl, .inl ⟨_, .inl (s6 _ _ gd4)⟩, _, rfl, _, rfl, _, dg, fin _ dq⟩
      · rintro H5 ⟨s5, acc, gD5, da⟩
        have lk0 : (keptD ks es (ys.map (·.1)) olds).length = ys.length := by
          unfold keptD
          rw [List.length_map, List.length_zip, List.length_map]; omega
        rw [List.take_of_length_le (by omega)] at da
        refine ⟨D, _, rfl, .inl ⟨SqL.of gD5, fun p hp => ?_⟩⟩
        have sp : Same H5 (upd H5 p (.tup acc)) := Same.upd hp
        have s6 : Same H0 (upd H5 p (.tup acc)) := (s4.trans s5).trans sp
        have gp : (upd H5 p (.tup acc)) p = some (.tup acc) := upd_same
        generalize upd H5 p (.tup acc) = H6 at sp s6 gp ⊢
        have hx6 := s6 _ _ hx
        refine ⟨_, rfl, x, C, dx, _, _, rfl, hx6, RC.cl, RC.nS, rfl, _, rfl, x, C, dx, _, _, rfl, hx6, RC.cl, RC.nP, rfl, _, rfl, fun x' dx' hx' hdx' ne' => ?_⟩
        obtain ⟨zs2, ez, hz2⟩ := strs_ex (kept_modes (names := ys.map (·.1)) fO hz)
        have em : modesV ys.length (wordsD ys.length (.tuple (keptD ks es (ys.map (·.1)) olds))) = none := by
          show modesV ys.length (.tuple (keptD ks es (ys.map (·.1)) olds)) = none
          rw [ez] at lk0 ⊢
          rw [List.length_map] at lk0
          exact modes_no lk0 hz2
        refine req_okQ (b1 := 2) (B1 := 10 ^ 31) (b2 := 3) (B2 := big) so (Dq.same s6 _ _ (.tup hS hsd)) ((spots_goodK so).mono (Nat.le_refl _) (by decide) (Nat.le_refl _)) (Dq.same s6 _ _ hP) gP (.tup (.inl (.inl gp)) (DqAll.same s6 _ _ da)) pno em hx' hdx' ne' fun v3' H7 s7 gx' d3 => ⟨rfl, ?_⟩
        exact q fO x' dx' v3' H7 (s6.trans s7) (Same.free s6 hx') gx' d3
end
end Ms
namespace Ms
open PySem PySem.Spec PyProof.Rows L2 LamX
/-! ### _law_told(lambda: ..) of law k06 -/
def TT6 (K : PySem.W.Frag) (C CM CI : Addr) : (XK → Hp → VK → Prop) → Hp → VK → Prop := fun tl H Q => ∀ (H0 : Hp) (Ec : XK) (Qc : VK), Same H H0 →
  (∀ (dd : Addr) (u : V) (H' : Hp), H' dd = some (.xd [("place", u)]) → (∀ p, H' p = none → Q (.ref p) (upd H' p (.tup [.str "modes", u]))) → Ec (.ref CM) (some dd) H') →
  (∀ (dd : Addr) (u : V) (H' : Hp), H' dd = some (.xd [("name", u)]) → (∀ p, H' p = none → Q (.ref p) (upd H' p (.tup [.str "missing", u]))) → Ec (.ref CI) (some dd) H') →
  (∀ (x dx : Addr) (v1 v2 v3 : V) (H1 : Hp), H1 x = some (.ins C dx (reqF v1 v2 v3)) → (∀ p, H1 p = none → Q (.ref p) (upd H1 p (.lst [v3, v2, v1]))) → Qc (.ref x) H1) → tl Ec H0 Qc
abbrev NTo : List Str := ["call", "one", "e"]
theorem scTo : FnScope NTo ["call"] (defScope sTold) := ⟨rfl, rfl, rfl, by decide +kernel, rfl, by decide +kernel, by decide +kernel⟩
/-- one class of refusals: caught by its own clause alone -/
structure RefM (K : PySem.W.Frag) (C : Addr) : Prop where
  low : XfC K C
  no : PySem.W.findIn K (.ref C) "place" = some none
structure RefI (K : PySem.W.Frag) (C : Addr) : Prop where
  low : XfC K C
  no : PySem.W.findIn K (.ref C) "name" = some none
section
variable {X : Cx} {C CM CI g : Addr} {cdg : Value} {q : Str}
theorem told_req (RC : ReqC X.K C) (mM : X.mg "BadModes" = some (.ref CM)) (mI : X.mg "Missing" = some (.ref CI))
    (xMM : PySem.W.exmOne X.K (.ref CM) (.ref CM) = some true) (xIM : PySem.W.exmOne X.K (.ref CI) (.ref CM) = some false) (xII : PySem.W.exmOne X.K (.ref CI) (.ref CI) = some true)
    (RM : RefM X.K CM) (RI : RefI X.K CI) :
    GivesTo X NTo "_law_told" (defScope sTold) g cdg (defBody sTold) "call" q (TT6 X.K C CM CI) := by
  intro f c' s H Q tl act hc h
  refine ⟨_, pss_cons (ps_try_list (X := (cxOf C8.CX0 X.prog X.w X.K X.mg X.base NTo "_law_told" (defScope sTold) g cdg X.A X.stack s H C8.E0).nox) (i := 2) (n := "e")
      (tb := fun W D σ H1 => σ[0]? = some (some (.ref f)) ∧ H1 c' = some (CodeO c' q) ∧ tl (fun cls d H' => ∀ σ' : L2.St, σ'.length = 3 → W cls d σ' H') H1 (fun y H2 => gName 1 y σ H2 D.nx))
      rfl rfl scTo.nd rfl rfl (fun W pn xe tk _ => ?_)
      (.more (c := .ref CM) ⟨by rfl, by decide, .inl mM⟩ (fun a oe cls d pn hz hf => pss_one (ps_ret (pe_tup (pa_cons pe_str (pa_cons (pe_xf RM.low RM.no hz hf (pv 2)) pa_nil)))))
      (.more (c := .ref CI) ⟨by rfl, by decide, .inl mI⟩ (fun a oe cls d pn hz hf => pss_one (ps_ret (pe_tup (pa_cons pe_str (pa_cons (pe_xf RI.low RI.no hz hf (pv 2)) pa_nil)))))
      .last)))
    (pss_one (ps_ret (pe_lst (pa_cons (pe_fld (pv 1) rfl) (pa_cons (pe_fld (pv 1) rfl) (pa_cons (pe_fld (pv 1) rfl) pa_nil)))))), ?_⟩
  · refine ⟨fun pins s' σ H' D I h' => ?_⟩
    obtain ⟨h1, h2, h3⟩ := h'
    have tk' : Takes ((cxOf C8.CX0 X.prog X.w X.K X.mg X.base NTo "_law_told" (defScope sTold) g cdg X.A X.stack s H C8.E0).nox.tr pn xe) (fun cls d σ' H' => σ'.length = 3 → W cls d σ' H') := fun u s' ⟨a, B, sI, pins, σ, H, cls, d, e, I, nb, up, sky, na, os, ag, w⟩ =>
      tk u s' ⟨a, B, sI, pins, σ, H, cls, d, e, I, nb, up, sky, na, os, ag, w I.len⟩
    have hp := fun p1 p2 => act _ pn xe (fun cls d H' => ∀ σ' : L2.St, σ'.length = 3 → W cls d σ' H') p1 p2 tk' (fun cls d σ' H' e hl => e σ' hl)
    exact (pss_one (ps_set (i := 1) scTo.nd rfl (by first | exact Or.inl rfl | exact Or.inr rfl) (hp _ _))).run pins s' σ H' D I ⟨h1, h2, h3⟩
  · refine ⟨rfl, hc, h _ _ _ (Same.refl H) (fun dd u H' hdd k σ' hl => ?_) (fun dd u H' hdd k σ' hl => ?_) (fun x dx v1 v2 v3 H1 hx k => ?_)⟩
    · match σ', hl with
      | [x0, x1, x2], _ =>
        exact ⟨true, xMM, fun _ a na => ⟨_, rfl, rfl, rfl, dd, _, _, rfl, hdd, rfl, (by show 2 ≤ sizeLine; decide), fun p hp => k p hp⟩, fun z => nomatch z⟩
    · match σ', hl with
      | [x0, x1, x2], _ =>
        exact ⟨false, xIM, (fun z => nomatch z), fun _ => ⟨true, xII, fun _ a na => ⟨_, rfl, rfl, rfl, dd, _, _, rfl, hdd, rfl, (by show 2 ≤ sizeLine; decide), fun p hp => k p hp⟩, fun z => nomatch z⟩⟩
    · exact ⟨_, rfl, x, C, dx, _, _, rfl, hx, RC.cl, RC.nM, rfl, _, rfl, x, C, dx, _, _, rfl, hx, RC.cl, RC.nP, rfl, _, rfl, x, C, dx, _, _, rfl, hx, RC.cl, RC.nS, rfl, (by show 3 ≤ sizeLine; decide), fun p hp => k p hp⟩
end
end Ms
namespace Ms
open PySem PySem.Spec PyProof.Rows L2 LamX
/-! ### f(lambda x=..: body): a lambda with one default that is never read -/
/-- such a lambda's object, its defaults' tuple at T -/
abbrev ldFn (qual : Str) (params : Arguments) (body : Expr) (scope : Scope) (cl : List (Str × Addr)) (pm cdv ct : Value) (T : Addr) : FuncData :=
  { PySem.W.kla_fn "<lambda>" qual params body scope cl pm cdv ct with defaults := .ref T }
abbrev ldObj (qual : Str) (params : Arguments) (body : Expr) (scope : Scope) (cl : List (Str × Addr)) (pm cdv ct : Value) (T : Addr) : Obj :=
  { cls := .type "function", data := .func (ldFn qual params body scope cl pm cdv ct T) }
section
variable {M : Model} {A : Around} {E : Value → Shared → Prop} {s : Shared} {qual : Str} {params : Arguments} {body : Expr} {scope : Scope} {env : Env} {c P T : Addr} {ps : Array Value} {pos : Pos} {firstLine : Nat} {mg : Str → Option Value}
  {clos : List (Str × Addr)} {Q : Value → Shared → Prop}
theorem ld_tail (hcl : closureFor scope env = pure clos) (hge0 : env.globals = mainGlobals) (hg : s.heap.Ns mainGlobals mg) (hcode : env.code = .ref c) (C : PySem.W.CodeHd s.heap c P) (hP : s.heap.get? P = some (PySem.W.tabObj ps)) (ht : TriplesOk ps.toList)
    (hnf : codeAmong pos ps.toList = none) (hgP : mainGlobals ≠ P) (hb : s.heap.BuiltinsAt mg P)
    (h : ∀ c' ctv h' tk, Heap.ExtBut P s.heap h' → s.heap.objs.size ≤ c' → c' < h'.objs.size → h'.CodeRec (.ref c') qual → h'.get? P = some (PySem.W.tabObj (ps ++ #[rawInt pos.line, rawInt pos.col, .ref c'])) →
      Q (.ref h'.objs.size) { s with heap := h'.push (ldObj qual params body scope clos ((mg "__name__").getD .none) (.ref c') ctv T), toks := tk }) :
    wpAny M A (makeTail "<lambda>" qual params (.expr body) scope env (.ref T) .none none pos firstLine) Q E s := by
  obtain ⟨bm, ob, hbm, hne0, _, hneP, hbo, hcls, hdict, hdata⟩ := hb
  unfold makeTail
  rw [hcl, hge0]
  refine wpAny_bind (wpAny_pure ?_)
  cases clos with
  | nil =>
    simp only [List.isEmpty_nil, if_true]
    refine wpAny_bind (wpAny_pure ?_)
    refine wpAny_bind (wpAny_functionCodeX hcode (C.code hP ht) (C.tab hP) hnf fun c' h' tk hx hge hlt _ hrec htb _ => ?_)
    have hg' := hg.extBut hx hgP
    refine wpAny_bind (wpAny_builtinsFor hg' hbm hne0 (hx _ _ hneP hbo) hcls hdict hdata ?_)
    refine wpAny_bind (wpAny_nsGet hg' ?_)
    exact wpAny_bind (wpAny_pure (wpAny_newObj_type (h c' .none h' tk hx hge hlt hrec htb.2) (by size_fits)))
  | cons q r =>
    simp only [List.isEmpty_cons, Bool.false_eq_true, if_false]
    refine wpAny_bind (wpAny_newTextTuple ?_)
    refine wpAny_bind (wpAny_functionCodeX hcode ((C.keeps fun b o e => Heap.get?_push_of_some _ e).code (Heap.get?_push_of_some _ hP) ht) ((C.keeps fun b o e => Heap.get?_push_of_some _ e).tab (Heap.get?_push_of_some _ hP)) hnf fun c' h' tk hx hge hlt _ hrec htb _ => ?_)
    have hg' := (hg.push _).extBut hx hgP
    have hx' : Heap.ExtBut P s.heap h' := fun b o hb' e => hx b o hb' (Heap.get?_push_of_some _ e)
    have hge' : s.heap.objs.size ≤ c' := Nat.le_trans (by rw [Heap.size_push]; omega) hge
    refine wpAny_bind (wpAny_builtinsFor hg' hbm hne0 (hx' _ _ hneP hbo) hcls hdict hdata ?_)
    refine wpAny_bind (wpAny_nsGet hg' ?_)
    exact wpAny_bind (wpAny_pure (wpAny_newObj_type (h c' _ h' tk hx' hge' hlt hrec htb.2) (by size_fits)))
theorem ld_tailHit {cv : Value} (hcl : closureFor scope env = pure clos) (hge0 : env.globals = mainGlobals) (hg : s.heap.Ns mainGlobals mg) (hcode : env.code = .ref c) (C : PySem.W.CodeHd s.heap c P) (hP : s.heap.get? P = some (PySem.W.tabObj ps)) (ht : TriplesOk ps.toList)
    (hf : codeAmong pos ps.toList = some cv) (hb : s.heap.BuiltinsAt mg P)
    (h : ∀ (ctv : Value) (h' : Heap) (tk : Tok), (∀ b o, s.heap.get? b = some o → h'.get? b = some o) → s.heap.objs.size ≤ h'.objs.size →
      Q (.ref h'.objs.size) { s with heap := h'.push (ldObj qual params body scope clos ((mg "__name__").getD .none) cv ctv T), toks := tk }) :
    wpAny M A (makeTail "<lambda>" qual params (.expr body) scope env (.ref T) .none none pos firstLine) Q E s := by
  obtain ⟨bm, ob, hbm, hne0, _, hneP, hbo, hcls, hdict, hdata⟩ := hb
  unfold makeTail
  rw [hcl, hge0]
  refine wpAny_bind (wpAny_pure ?_)
  cases clos with
  | nil =>
    simp only [List.isEmpty_nil, if_true]
    refine wpAny_bind (wpAny_pure ?_)
    refine wpAny_bind (wpAny_functionCode_hit hcode (C.code hP ht) hf ?_)
    refine wpAny_bind (wpAny_builtinsFor hg hbm hne0 hbo hcls hdict hdata ?_)
    refine wpAny_bind (wpAny_nsGet hg ?_)
    exact wpAny_bind (wpAny_pure (wpAny_newObj_type (h .none s.heap s.toks (fun _ _ e => e) (Nat.le_refl _)) (by size_fits)))
  | cons q r =>
    simp only [List.isEmpty_cons, Bool.false_eq_true, if_false]
    refine wpAny_bind (wpAny_newTextTuple ?_)
    refine wpAny_bind (wpAny_functionCode_hit hcode ((C.keeps fun b o e => Heap.get?_push_of_some _ e).code (Heap.get?_push_of_some _ hP) ht) hf ?_)
    refine wpAny_bind (wpAny_builtinsFor (hg.push _) hbm hne0 (Heap.get?_push_of_some _ hbo) hcls hdict hdata ?_)
    refine wpAny_bind (wpAny_nsGet (hg.push _) ?_)
    have hsz : ∀ oT : Obj, s.heap.objs.size ≤ (s.heap.push oT).objs.size := fun oT => by rw [Heap.size_push]; omega
    exact wpAny_bind (wpAny_pure (wpAny_newObj_type (h _ _ s.toks (fun b o e => Heap.get?_push_of_some _ e) (hsz _)) (by size_fits)))
end
section
variable {X : Cx} {pins : List (Addr × Obj)} {σ : L2.St} {H : Hp} {s : Shared}
/-- made -/
theorem ld_make {T : List (Addr × Str)} {c P : Addr} {params : Arguments} {body e0 : Expr} {v0 : V} {scope : Scope} {pos : Pos} {Q : Value → Shared → Prop} (I : Inv X pins σ H s) (TB : TabB X.base X.mg c P) (hcode : X.env.code = .ref c)
    (hm : (P, X.env.qual ++ "<lambda>") ∈ T) (hu : ∀ p ∈ T, p.1 = P → p.2 = X.env.qual ++ "<lambda>") (hT : Tabs T H) (hdef : defaultsOf params X.env = ([eval e0 X.env], [])) (hko : params.kwonlyargs = []) (he0 : PE X e0 (tC v0)) (hfree : ∀ y ∈ scope.names, y.2 = .free → ∃ c, X.env.cells.lookup y.1 = some c)
    (h : ∀ (f c' D : Addr) (u0 pm ctv : Value) (H1 : Hp) (s' : Shared), Inv X pins σ H1 s' → ExtN H H1 → Tabs T H1 →
      s'.heap.get? f = some (ldObj (X.env.qual ++ "<lambda>") params body scope (cloFrom X.env.cells scope.names []) pm (.ref c') ctv D) → H1 f = none → f ∉ frs X.stack → H1 c' = some (CodeO c' (X.env.qual ++ "<lambda>")) →
      s'.heap.get? D = some { cls := .type "tuple", data := .seq #[u0] } → H1 D = none → D ∉ frs X.stack → RelV v0 u0 → Q (.ref f) s') :
    wpAny (model X.prog X.w) X.A (eval (.Lambda params body scope pos) X.env) Q X.xe s := by
  rw [arm_eval_Lambda, hdef]
  show wpAny (model X.prog X.w) X.A (do let dv ← evalAll [eval e0 X.env]; let kdv ← holding dv (evalAllOpt []); makeFunction "<lambda>" (X.env.qual ++ "<lambda>") params (.expr body) scope X.env dv kdv [] pos pos.line) Q X.xe s
  refine wpAny_bind (wpAny_bind (thn (he0.run pins s σ H (fun v H' => v = v0 ∧ H' = H) I ⟨rfl, rfl⟩) fun u0 s1 ⟨v, H', I1, r1, ev, eH⟩ => ?_))
  subst ev
  rw [eH] at I1
  refine wpAny_bind (wpAny_holding (wpAny_pure (wpAny_pure ?_)))
  refine wpAny_bind (wpAny_holding (wpAny_pure ?_))
  rw [makeFunction_eq, hko]
  simp only [List.zip_nil_right, List.zip_nil_left, List.filterMap_nil, List.isEmpty_nil, List.isEmpty_cons, if_true, Bool.false_eq_true, if_false, pure_bind]
  refine wpAny_bind (wpAny_newTextTuple ?_)
  have kD : ∀ b o, s1.heap.get? b = some o → (s1.heap.push { cls := .type "tuple", data := .seq #[u0] }).get? b = some o := fun b o e => Heap.get?_push_of_some _ e
  have I2 : Inv X pins σ H { s1 with heap := s1.heap.push { cls := .type "tuple", data := .seq #[u0] } } := I1.kept (t' := s1.toks) kD
  have eD : (s1.heap.push { cls := .type "tuple", data := .seq #[u0] }).get? s1.heap.objs.size = some { cls := .type "tuple", data := .seq #[u0] } := Heap.get?_push_size _ rfl
  have nD : H s1.heap.objs.size = none := I1.hok.fresh (Nat.le_refl _)
  have nofr1 : ∀ f, s1.heap.objs.size ≤ f → f ∉ frs X.stack := fun f hf z => by
    rcases List.mem_cons.mp (I1.stkSub _ z) with e | e
    · have h1 := I1.lt
      rw [← e] at h1
      exact Nat.lt_irrefl _ (Nat.lt_of_lt_of_le h1 hf)
    · exact I1.nofs hf e
  have fD := nofr1 s1.heap.objs.size (Nat.le_refl _)
  have ltD : s1.heap.objs.size < (s1.heap.push { cls := .type "tuple", data := .seq #[u0] }).objs.size := by rw [Heap.size_push]; exact Nat.lt_succ_self _
  show wpAny _ _ (makeTail "<lambda>" (X.env.qual ++ "<lambda>") params (.expr body) scope X.env (.ref s1.heap.objs.size) .none none pos pos.line) Q X.xe { s1 with heap := s1.heap.push { cls := .type "tuple", data := .seq #[u0] } }
  generalize s1.heap.objs.size = D at eD nD fD ltD ⊢
  have eD : ({ s1 with heap := s1.heap.push { cls := .type "tuple", data := .seq #[u0] } } : Shared).heap.get? D = some { cls := .type "tuple", data := .seq #[u0] } := eD
  have ltD : D < ({ s1 with heap := s1.heap.push { cls := .type "tuple", data := .seq #[u0] } } : Shared).heap.objs.size := ltD
  generalize ({ s1 with heap := s1.heap.push { cls := .type "tuple", data := .seq #[u0] } } : Shared) = s2 at I2 eD ltD ⊢
  obtain ⟨ps, hP, ht, ha⟩ := hT _ hm
  have bP : s2.heap.BuiltinsAt X.mg P := TB.bm.keeps I2.bk
  have hP' : s2.heap.get? P = some { cls := .none, data := .fields ps } := I2.hok P _ hP
  have nofr : ∀ f, s2.heap.objs.size ≤ f → f ∉ frs X.stack := fun f hf z => by
    rcases List.mem_cons.mp (I2.stkSub _ z) with e | e
    · have h1 := I2.lt
      rw [← e] at h1
      exact Nat.lt_irrefl _ (Nat.lt_of_lt_of_le h1 hf)
    · exact I2.nofs hf e
  have nDP : D ≠ P := fun z => by
    rw [z, hP] at nD
    cases nD
  cases hc : codeAmong pos ps.toList with
  | none =>
    refine ld_tail (mg := X.mg) (c := c) (P := P) (ps := ps) (closure_ok hfree) I2.ok.glob (I2.mod.glob.keeps I2.bk) hcode (TB.code.keeps I2.bk) hP' ht hc TB.gP bP fun c' ctv h' tk hx hge hlt hrec htb => ?_
    obtain ⟨c2, oc, vs, t, e2, hoc, hd, hv⟩ := hrec
    cases e2
    have hsz : s2.heap.objs.size ≤ h'.objs.size := Nat.le_trans hge (Nat.le_of_lt hlt)
    have nC : H c' = none := I2.hok.fresh hge
    have I3 := inv_table (t' := tk) (more := #[rawInt pos.line, rawInt pos.col, .ref c']) (h' := h'.push (ldObj (X.env.qual ++ "<lambda>") params body scope (cloFrom X.env.cells scope.names []) ((X.mg "__name__").getD .none) (.ref c') ctv D)) I2 hP
      (fun b o hb e => Heap.get?_push_of_some _ (hx b o hb e)) (Heap.get?_push_of_some _ htb) hge ⟨oc, vs, t, Heap.get?_push_of_some _ hoc, hd, hv⟩
    have hE : ExtN H (upd (upd H P (.tbl (ps ++ #[rawInt pos.line, rawInt pos.col, .ref c']))) c' (CodeO c' (X.env.qual ++ "<lambda>"))) := fun b o e n => by
      rw [upd_ne (ne_of_none e nC), upd_ne (fun z => n ps (Option.some.inj (e.symm.trans (by rw [z]; exact hP))))]
      exact e
    have eL : (ps ++ #[rawInt pos.line, rawInt pos.col, .ref c']).toList = ps.toList ++ [rawInt pos.line, rawInt pos.col, .ref c'] := by simp
    have nDc : D ≠ c' := Nat.ne_of_lt (Nat.lt_of_lt_of_le ltD hge)
    refine h h'.objs.size c' D u0 ((X.mg "__name__").getD .none) ctv _ _ I3 hE (fun p hp => ?_) (Heap.get?_push_size _ rfl) ?_ (nofr _ hsz) upd_same (Heap.get?_push_of_some _ (hx D _ nDP eD)) (by rw [upd_ne nDc, upd_ne nDP]; exact nD) fD r1
    · by_cases hb : p.1 = P
      · rw [hu p hp hb, hb]
        refine ⟨_, by rw [upd_ne (ne_of_none hP nC), upd_same], by rw [eL]; exact PySem.TriplesOk_snoc _ _ _ _ ht, fun p' cv hcv => ?_⟩
        rw [eL] at hcv
        rcases among_app _ ht hcv with z | z
        · obtain ⟨c0, e1, e2⟩ := ha p' cv z
          exact ⟨c0, e1, hE _ _ e2 codeO_ne⟩
        · exact ⟨c', z, upd_same⟩
      · obtain ⟨ps', a1, a2, a3⟩ := hT p hp
        refine ⟨ps', by rw [upd_ne (ne_of_none a1 nC), upd_ne hb]; exact a1, a2, fun p' cv hcv => ?_⟩
        obtain ⟨c0, e1, e2⟩ := a3 p' cv hcv
        exact ⟨c0, e1, hE _ _ e2 codeO_ne⟩
    · have n1 : h'.objs.size ≠ c' := Nat.ne_of_gt hlt
      have n2 : h'.objs.size ≠ P := Nat.ne_of_gt (Nat.lt_of_lt_of_le (Heap.lt_size hP') hsz)
      rw [upd_ne n1, upd_ne n2]
      exact I2.hok.fresh hsz
  | some cv =>
    obtain ⟨c', e, hco⟩ := ha pos cv hc
    subst e
    refine ld_tailHit (mg := X.mg) (c := c) (P := P) (ps := ps) (closure_ok hfree) I2.ok.glob (I2.mod.glob.keeps I2.bk) hcode (TB.code.keeps I2.bk) hP' ht hc bP fun ctv h' tk hx hsz => ?_
    have I3 : Inv X pins σ H { s2 with heap := h'.push (ldObj (X.env.qual ++ "<lambda>") params body scope (cloFrom X.env.cells scope.names []) ((X.mg "__name__").getD .none) (.ref c') ctv D), toks := tk } := I2.kept fun b o e => Heap.get?_push_of_some _ (hx b o e)
    exact h h'.objs.size c' D u0 ((X.mg "__name__").getD .none) ctv H _ I3 (ExtN.refl H) hT (Heap.get?_push_size _ rfl) (I2.hok.fresh hsz) (nofr _ hsz) hco (Heap.get?_push_of_some _ (hx D _ eD)) nD fD r1
end
/-! ### the lambda's names -/
/-- names of its own that the maker has not -/
structure LdS (N : List Str) (sc scope : Scope) : Prop where
  kind : scope.kind = .function
  co : scope.isCoroutine = false
  gen : scope.isGenerator = false
  own : ∀ y ∈ scope.names, y.2 ≠ .cell ∧ (y.2 = .local → y.1 ∉ N)
  free : ∀ y ∈ scope.names, y.2 = .free → sc.names.lookup y.1 = some .cell ∨ sc.names.lookup y.1 = some .free
def ldSB (N : List Str) (sc scope : Scope) : Bool :=
  decide (scope.kind = .function) && !scope.isCoroutine && !scope.isGenerator && scope.names.all fun y => !decide (y.2 = .cell) && (!decide (y.2 = .local) || !decide (y.1 ∈ N)) && (!decide (y.2 = .free) || decide (sc.names.lookup y.1 = some .cell) || decide (sc.names.lookup y.1 = some .free))
theorem ldS_by {N : List Str} {sc scope : Scope} (h : ldSB N sc scope = true) : LdS N sc scope := by
  unfold ldSB at h
  simp only [Bool.and_eq_true, Bool.or_eq_true, Bool.not_eq_true', decide_eq_true_eq, decide_eq_false_iff_not, List.all_eq_true] at h
  obtain ⟨⟨⟨h1, h2⟩, h3⟩, h4⟩ := h
  refine ⟨h1, h2, h3, fun y hy => ⟨(h4 y hy).1.1, fun e => ?_⟩, fun y hy e => ?_⟩
  · rcases (h4 y hy).1.2 with z | z
    · exact absurd e z
    · exact z
  · rcases (h4 y hy).2 with (z | z) | z
    · exact absurd e z
    · exact .inl z
    · exact .inr z
theorem LdS.has {X : Cx} {scope : Scope} (L : LdS X.N X.env.scope scope) (ok : X.Ok) : ∀ y ∈ scope.names, y.2 = .free → ∃ c, X.env.cells.lookup y.1 = some c := fun y hy e => by
  rcases L.free y hy e with k | k
  · exact ok.has _ (.inl k)
  · exact ok.has _ (.inr k)
section
variable {X : Cx} {pins : List (Addr × Obj)} {σ : L2.St} {H HZ : Hp} {s s1 : Shared}
theorem ld_start {A : Around} {outer : List Env} {E : XK} {scope : Scope} {f c' : Addr} {h₁ : Heap} {tk : Nat} {bs : List (Str × Value)} (I : Inv X pins σ H s) (L : LdS X.N X.env.scope scope) (e0 : Env0 X.prog X.w X.K X.mg X.base A outer s1 HZ) (hd : A.handled = none)
    (un : Un (frs X.stack) [] H HZ s.heap s1.heap) (hns : h₁.Ns s1.heap.objs.size fun y => bs.reverse.lookup y) (kp : ∀ b o, s1.heap.get? b = some o → h₁.get? b = some o) :
    Inv (lamCx X A outer s1 HZ E scope f c') [] σ HZ { s1 with heap := h₁, toks := tk } := by
  have hfree := L.has I.ok
  have cm : ∀ {y c}, (cloFrom X.env.cells scope.names []).lookup y = some c → X.env.cells.lookup y = some c := fun {y c} e => by
    rcases cloFrom_mem (PySem.mem_of_lookup e) with hm | ⟨h1, h2⟩
    · cases hm
    · obtain ⟨c1, hc⟩ := hfree _ h1 rfl
      have hc : X.env.cells.lookup y = some c1 := hc
      have e2 : c = c1 := by
        rw [h2, hc] <;> rfl
      rw [e2]
      exact hc
  have look : ∀ {y}, scope.names.lookup y = some .free → ∃ c, (cloFrom X.env.cells scope.names []).lookup y = some c := fun {y} hl => by
    have hy : (y, NameKind.free) ∈ scope.names := PySem.mem_of_lookup hl
    exact mem_lookup (cloFrom_has (cells := X.env.cells) (acc := []) hy)
  have cellK : ∀ {c : Addr} {v : Option Value}, H c = none → s.heap.IsCell c v → h₁.IsCell c v := fun {c v} n ⟨o, ho, hd⟩ => by
    obtain ⟨sl, q⟩ := un.any ho n (by simp)
    exact ⟨_, kp _ _ q, hd⟩
  have noA : ∀ b : Addr, b ∉ (lamCx X A outer s1 HZ E scope f c').ex := fun b z => absurd (show b ∈ ([] : List Addr) from z) (by simp)
  refine ⟨⟨e0.mod, L.kind, rfl, rfl, Nat.le_refl _, fun y z c e1 e2 => I.ok.inj y z c (cm e1) (cm e2), fun y hy => ?_, fun y c z _ => ?_, fun _ => hd, Around.frames_deeper e0.frames, .inr ⟨rfl, rfl⟩, fun b z => absurd z (noA b), e0.bs, e0.bsz, fun b _ _ => noA b,
      fun b z => absurd z (noA b), e0.funs, e0.frf⟩,
    rfl, e0.bare, Un.kept kp, ⟨_, hns, fun i y v e1 e2 e3 => ?_⟩, fun y c e => ?_, e0.hok.fresh (Nat.le_refl _), fun y c e => ?_, fun q hq => absurd (show q ∈ ([] : List (Addr × Obj)) ++ [] from hq) (by simp), e0.hok.kept kp, I.len⟩
  · have hy : scope.names.lookup y = some .cell ∨ scope.names.lookup y = some .free := hy
    rcases hy with hy | hy
    · exact absurd rfl (L.own _ (PySem.mem_of_lookup hy)).1
    · exact look hy
  · have z : false = true := z
    cases z
  · have e3 : Vis scope y := e3
    rcases e3 with k | k | k
    · exact absurd (List.mem_of_getElem? (show X.N[i]? = some y from e1)) ((L.own _ (PySem.mem_of_lookup k)).2 rfl)
    · exact absurd rfl (L.own _ (PySem.mem_of_lookup k)).1
    · obtain ⟨m, hn, hl⟩ := I.loc
      have hvis : Vis X.env.scope y := (L.free _ (PySem.mem_of_lookup k) rfl).elim (fun k => .inr (.inl k)) (fun k => .inr (.inr k))
      obtain ⟨w', r, q⟩ := hl i y v e1 e2 hvis
      obtain ⟨c2, h2⟩ := look k
      refine ⟨w', r, .inr ⟨.inr k, c2, h2, ?_⟩⟩
      have c1 := cm h2
      rcases q with ⟨k', _⟩ | ⟨_, c3, e', z⟩
      · have k' : X.env.scope.names.lookup y = some .local := k'
        rcases L.free _ (PySem.mem_of_lookup k) rfl with k2 | k2 <;> rw [show X.env.scope.names.lookup y = _ from k2] at k' <;> cases k'
      · rw [c1] at e'
        cases e'
        exact cellK (I.freeC y _ c1) z
  · obtain ⟨w', z⟩ := I.cell y c (cm e)
    exact ⟨w', cellK (I.freeC y c (cm e)) z⟩
  · obtain ⟨v, o, ho, hd⟩ := I.cell y c (cm e)
    exact un.free c o ho (I.freeC y c (cm e)) (by simp)
/-- called -/
theorem ld_act {CXg : CXT} {Eg : XK} {Ng : List Str} {qg : Str} {sg : Scope} {g f c' D : Addr} {cdg pm ctv u0 : Value} {params : Arguments} {body : Expr} {scope : Scope} {k i : Nat} {a x0 : Str} {pn : List (Addr × Obj)} {xe : Value → Shared → Prop} {W : WX} {E : XK} {tb : TE} {p1 p2 : Pos}
    (I : Inv X pins σ H s) (L : LdS X.N X.env.scope scope) (hf : s.heap.get? f = some (ldObj (X.env.qual ++ "<lambda>") params body scope (cloFrom X.env.cells scope.names []) pm (.ref c') ctv D)) (hfn : H f = none) (hfr : f ∉ frs X.stack)
    (hD : s.heap.get? D = some { cls := .type "tuple", data := .seq #[u0] }) (hDn : H D = none) (hDr : D ∉ frs X.stack) (hx0 : scope.names.lookup x0 = some .local)
    (hbind : ∃ k, bindArgs (ldFn (X.env.qual ++ "<lambda>") params body scope (cloFrom X.env.cells scope.names []) pm (.ref c') ctv D) ⟨[], []⟩ = seqItems? (.ref D) >>= k ∧ k (some #[u0]) = pure [(x0, u0)])
    (tk : Takes ((cxOf CXg X.prog X.w X.K X.mg X.base Ng qg sg g cdg X.A X.stack s H Eg).tr pn xe) W) (hW : ∀ cls d σ' H', E cls d H' → W cls d σ' H') (hr : Room (k + 1) (X.A.deeper (envOfC qg sg s.heap.objs.size g cdg)))
    (hbody : ∀ (A : Around) (outer : List Env) (s : Shared) (H : Hp), Room k (A.deeper (lamEnv X scope s.heap.objs.size f c')) → PE (lamCx X A outer s H E scope f c') body tb)
    (hN : Ng[i]? = some a) (hv : Vis sg a) (hd : (a == ("__debug__" : Str)) = false := by decide) (hcd : (a == ("__classdict__" : Str)) = false := by decide) :
    PE ((cxOf CXg X.prog X.w X.K X.mg X.base Ng qg sg g cdg X.A X.stack s H Eg).tr pn xe) (.Call (.Name a p1) [] [] p2)
      (fun σZ HZ Q => σZ[i]? = some (some (.ref f)) ∧ HZ c' = some (CodeO c' (X.env.qual ++ "<lambda>")) ∧ tb σ HZ Q) := by
  refine ⟨fun pinsZ sZ σZ HZ Q IZ h => ?_⟩
  obtain ⟨hs, hc, ht⟩ := h
  refine wpAny_Call_Name_kw (thn ((pe_var (pos := p1) (i := i) hN hv hd hcd).run pinsZ sZ σZ HZ (fun v H1 => v = .ref f ∧ H1 = HZ) IZ ⟨.ref f, hs, rfl, rfl⟩) fun u s1 ⟨v, H1, I1, r1, q1⟩ => ?_)
  obtain ⟨ev, eH⟩ := q1
  subst ev
  rw [eH] at I1
  obtain rfl : u = Value.ref f := r1
  have of1 : s1.heap.get? f = some (ldObj (X.env.qual ++ "<lambda>") params body scope (cloFrom X.env.cells scope.names []) pm (.ref c') ctv D) := I1.base.keep f _ hf hfn hfr (fun z => nomatch (show f ∈ ([] : List Addr) from z))
  have oD1 : s1.heap.get? D = some { cls := .type "tuple", data := .seq #[u0] } := I1.base.keep D _ hD hDn hDr (fun z => nomatch (show D ∈ ([] : List Addr) from z))
  refine PySem.W.callWith_F0 ⟨_, _, _, _, of1⟩ ?_
  have un : Un (frs X.stack) [] H HZ s.heap s1.heap := I1.base
  obtain ⟨⟨oc, vs, t, hoc, hdc, hvc⟩, _, _⟩ := I1.hok c' _ hc
  obtain ⟨kb, eb, ek⟩ := hbind
  have rc : codeAny (model X.prog X.w) (X.A.deeper (envOfC qg sg s.heap.objs.size g cdg)) (.call (.ref f) ⟨[], []⟩) (CR (L2.CX X.prog X.w) (envOfC qg sg s.heap.objs.size g cdg :: X.stack) X.prog X.w HZ s1 Q E) s1 := by
    refine PySem.W.kla_callFunE hr.depth of1 rfl L.co L.gen rfl ⟨c', oc, vs, t, rfl, hoc, hdc, hvc⟩ ?_
    rw [eb]
    refine wpAny_bind (wpAny_seqItems oD1 rfl ?_)
    rw [ek]
    refine wpAny_pure (wpAny_newFunctionEnv (fun y hy => (L.own y hy).1) (fun y hy => ?_) (fun h₁ hns hsb => ⟨I1.nolimit.fresh _ hsb, ?_⟩) L.kind)
    · rw [List.mem_singleton.mp hy]
      exact hx0
    show codeAny _ _ (.expr body (lamEnv X scope s1.heap.objs.size f c')) _ _
    have kp : ∀ b o, s1.heap.get? b = some o → h₁.get? b = some o := fun b o e => hsb.extBut b o (Nat.ne_of_lt (Heap.lt_size e)) (Heap.get?_push_of_some _ e)
    have J : Inv (lamCx X (X.A.deeper (envOfC qg sg s.heap.objs.size g cdg)) (envOfC qg sg s.heap.objs.size g cdg :: X.stack) s1 HZ E scope f c') [] σ HZ { s1 with heap := h₁, toks := s1.toks + [(x0, u0)].length } :=
      ld_start I L I1.env0 hr.hd un hns kp
    refine PySem.W.kla_codeExpr (wpAny_mono ((hbody _ _ s1 HZ (hr.deeper _)).run [] _ _ HZ Q J ht) (fun v s' hq => ?_) fun e s' hq => hq)
    obtain ⟨w', H', J', rv, q⟩ := hq
    exact ⟨w', H', J'.os, J'.bare, J'.base, J'.hok, rv, q⟩
  have hx : Passes (L2.CX X.prog X.w) ((cxOf CXg X.prog X.w X.K X.mg X.base Ng qg sg g cdg X.A X.stack s H Eg).tr pn xe) E := passes_call tk hW
  refine wpAny_call (codeAny_mono rc fun r s' hq => ?_)
  cases r with
  | error e => exact hx pinsZ σZ HZ s1 e s' I1 hq
  | ok fl =>
    cases fl with
    | ret u => exact I1.after hq
    | next => exact False.elim hq
    | brk => exact False.elim hq
    | cont => exact False.elim hq
/-- x(lambda y=..: body) -/
theorem pe_ldcall {T : List (Addr × Str)} {TT : (XK → Hp → VK → Prop) → Hp → VK → Prop} {x a x0 : Str} {g c P : Addr} {k : Nat} {pg : Arguments} {bg : List Stmt} {sg : Scope} {dV kV doc pm cdv ct oc : Value} {an od : Option Addr} {osl : Array (Option Value)} {Ng : List Str}
    {params : Arguments} {body e0 : Expr} {v0 : V} {scope : Scope} {t : XK → TE} {p lpos pos : Pos} (hg : Gl X x) (hm : X.mg x = some (.ref g)) (hk : PySem.W.keepIn X.K (.ref g) = true)
    (lk : X.K.lookup g = some ⟨oc, od, .func (PySem.W.fnOf x x pg bg sg dV kV doc pm an cdv ct), osl⟩) (hcg : PySem.W.codeIn X.K cdv x = true) (hb : L2.Binds X.K (PySem.W.fnOf x x pg bg sg dV kV doc pm an cdv ct) [a] []) (Sg : FnScope Ng [a] sg) (hNg : Ng[0]? = some a) (hva : Vis sg a)
    (hG : GivesTo X Ng x sg g cdv bg a (X.env.qual ++ "<lambda>") TT)
    (TB : TabB X.base X.mg c P) (hcode : X.env.code = .ref c) (hmT : (P, X.env.qual ++ "<lambda>") ∈ T) (hu : ∀ p ∈ T, p.1 = P → p.2 = X.env.qual ++ "<lambda>") (hr : Room (k + 2) X.A) (L : LdS X.N X.env.scope scope) (hdef : defaultsOf params X.env = ([eval e0 X.env], [])) (hko : params.kwonlyargs = []) (he0 : PE X e0 (tC v0))
    (hx0 : scope.names.lookup x0 = some .local)
    (hbind : ∀ (q : Str) (cl : List (Str × Addr)) (pm cv ctv u0 : Value) (D : Addr), ∃ k, bindArgs (ldFn q params body scope cl pm cv ctv D) ⟨[], []⟩ = seqItems? (.ref D) >>= k ∧ k (some #[u0]) = pure [(x0, u0)])
    (hbody : ∀ (A : Around) (outer : List Env) (s : Shared) (H : Hp) (E : XK) (f c' : Addr), Room k (A.deeper (lamEnv X scope s.heap.objs.size f c')) → PE (lamCx X A outer s H E scope f c') body (t E))
    (hdb : (x == ("__debug__" : Str)) = false := by decide) (hd : (a == ("__debug__" : Str)) = false := by decide) (hcd : (a == ("__classdict__" : Str)) = false := by decide) :
    PE X (.Call (.Name x p) [.Lambda params body scope lpos] [] pos) (tLam T TT t) := by
  refine ⟨fun pins s σ H Q I h => ?_⟩
  obtain ⟨hT, h⟩ := h
  refine wpAny_Call_Name_kw (ld_glob I hg hm ?_ hdb)
  refine PySem.W.callWith_K (h₀ := X.base) I.ok.mod.kin hk ?_ (by rfl) (by rfl)
  show wpAny _ _ (spliced ((false, eval (.Lambda params body scope lpos) X.env) :: backTo pos (starEach [] X.env))) _ _ s
  refine Calls.spliced_cons (ld_make I TB hcode hmT hu hT hdef hko he0 (L.has I.ok) fun f c' D u0 pm' ctv H1 s' I1 eN T1 hf hfn hfr hco hD hDn hDr _ => ?_)
  refine Calls.spliced_nil ⟨I1.kIn, ?_⟩
  have rc : codeAny (model X.prog X.w) X.A (.call (.ref g) ⟨[.ref f], []⟩) (CR C8.CX0 X.stack X.prog X.w H1 s' Q C8.E0) s' := by
    refine run_ofS (N := Ng) (ps := [a]) (us := [.ref f]) (vs := [.ref f]) lk hcg Sg hr I1.env0 (hb s' [.ref f] I1.kIn rfl) (.cons rfl .nil) rfl fun hr' => ?_
    obtain ⟨t', ht', hq'⟩ := hG f c' s' H1 Q (fun E H' Q' => t E σ H' Q') (fun W pn xe E p1 p2 tk hW => ld_act (i := 0) I1 L hf hfn hfr hD hDn hDr hx0 (hbind _ _ _ _ _ _ _) tk hW hr' (fun A outer s H hr2 => hbody A outer s H E f c' hr2) hNg hva hd hcd) hco (h H1 eN T1)
    exact ⟨t', ht'.nox, hq'⟩
  refine wpAny_call (codeAny_mono rc fun r s2 hq => ?_)
  cases r with
  | error e => exact (show False from hq).elim
  | ok fl =>
    cases fl with
    | ret u => exact I1.after hq
    | next => exact False.elim hq
    | brk => exact False.elim hq
    | cont => exact False.elim hq
end
end Ms
namespace Ms
open PySem PySem.Spec PyProof.Rows L2
/-! ### data without dicts, compared with itself -/
mutual
def noDi : PyData → Bool
  | .dict _ => false
  | .list xs | .tuple xs => noDiAll xs
  | _ => true
def noDiAll : List PyData → Bool
  | [] => true
  | x :: xs => noDi x && noDiAll xs
end
theorem noDi_all {xs : List PyData} (h : ∀ x ∈ xs, noDi x = true) : noDiAll xs = true := by
  induction xs with
  | nil => rfl
  | cons x xs ih => simp only [noDiAll, h x (List.mem_cons_self ..), ih fun y hy => h y (List.mem_cons_of_mem _ hy), Bool.and_self]
mutual
theorem lay_of {B : Nat} : ∀ d : PyData, okD B d = true → noDi d = true → d.canLay0 = true
  | .none, _, _ => rfl
  | .bool _, _, _ => rfl
  | .int _, _, _ => rfl
  | .str x, e, _ => by
    simp only [okD, List.all_eq_true, decide_eq_true_eq] at e
    show x.cps.all (· < 0x110000) = true
    rw [← Array.all_toList, List.all_eq_true]
    exact fun c hc => decide_eq_true (e c hc)
  | .list xs, e, n => by
    simp only [okD] at e
    simp only [noDi] at n
    exact layAll_of xs e n
  | .tuple xs, e, n => by
    simp only [okD] at e
    simp only [noDi] at n
    exact layAll_of xs e n
  | .dict _, _, n => by simp [noDi] at n
theorem layAll_of {B : Nat} : ∀ xs : List PyData, okAll B xs = true → noDiAll xs = true → PyData.canLayAll0 xs = true
  | [], _, _ => rfl
  | x :: xs, e, n => by
    simp only [okAll, Bool.and_eq_true] at e
    simp only [noDiAll, Bool.and_eq_true] at n
    show (x.canLay0 && PyData.canLayAll0 xs) = true
    rw [lay_of x e.1 n.1, layAll_of xs e.2 n.2]; rfl
end
theorem shaped_of {B a b : Nat} {d : PyData} (g : Gd B a b d) (n : noDi d = true) (hb : b ≤ 60) : SeqAt.shaped d = true := by
  unfold SeqAt.shaped
  rw [lay_of d g.ok n, decide_eq_true (by have := g.dp; omega)]; rfl
mutual
theorem Dq.dp {K : PySem.W.Frag} {H : Hp} {m l : Addr} : ∀ (d : PyData) (v : V), Dq K H m l v d → noDi d = true → Dp K H v d
  | .none, _, h, _ => by cases h; exact .non
  | .bool b, _, h, _ => by cases h; exact .bl b
  | .int i, _, h, _ => by cases h; exact .int i
  | .str x, _, h, _ => by cases h; exact .str x
  | .list ds, _, h, n => by
    simp only [noDi] at n
    cases h with
    | lst e _ _ t => exact .lst (SqL.of e) (DqAll.dp ds _ t n)
  | .tuple ds, _, h, n => by
    simp only [noDi] at n
    cases h with
    | tup e t => exact .tup e (DqAll.dp ds _ t n)
  | .dict _, _, h, n => by simp [noDi] at n
theorem DqAll.dp {K : PySem.W.Frag} {H : Hp} {m l : Addr} : ∀ (ds : List PyData) (vs : List V), DqAll K H m l vs ds → noDiAll ds = true → DpAll K H vs ds
  | [], _, h, _ => by cases h; exact .nil
  | d :: ds, _, h, n => by
    simp only [noDiAll, Bool.and_eq_true] at n
    cases h with
    | cons h1 h2 => exact .cons (Dq.dp d _ h1 n.1) (DqAll.dp ds _ h2 n.2)
end
theorem ne_self {K : PySem.W.Frag} {H : Hp} {m l : Addr} {v u : V} {d : PyData} {B a b : Nat} {Q : VK} (h1 : Dq K H m l v d) (h2 : Dq K H m l u d) (g : Gd B a b d) (n : noDi d = true) (hb : b ≤ 60) (q : Q (.bl false) H) : rNeD K v u H Q :=
  ⟨d, d, h1.dp d v n, h2.dp d u n, shaped_of g n hb, shaped_of g n hb, by rw [SeqAt.eqv_refl d (lay_of d g.ok n)]; exact q⟩
end Ms
namespace Ms
open PySem PySem.Spec PyProof.Rows L2
/-! ### own ==, !=, len -/
theorem looks_ref {M : Model} {h : Heap} {a : Addr} {o : Obj} {t : Value} (e : h.get? a = some o) (c : o.cls = t) : PySem.W.Looks M h (typeOf (.ref a)) t := c ▸ (PySem.W.Looks.ld e).andThen .now
section
variable {X : Cx} {pins : List (Addr × Obj)} {σ : L2.St} {H : Hp} {s : Shared}
theorem dq_looks {M : Model} {m l : Addr} {v : V} {u : Value} {d : PyData} (I : Inv X pins σ H s) (h : Dq X.K H m l v d) (r : RelV v u) : PySem.W.Looks M s.heap (typeOf u) (.type (tyD d)) := by
  cases h with
  | non => cases r; exact .of_pure rfl
  | bl b => cases r; exact .of_pure rfl
  | int i => obtain ⟨t, rfl⟩ := r; exact .of_pure rfl
  | str x => obtain ⟨t, rfl⟩ := r; exact .of_pure rfl
  | @lst a xs ds e _ _ _ =>
    cases r
    obtain ⟨_, its, n, _, h1⟩ := (show ObjOk X.prog X.w H s.heap a (.lst xs) from I.hok a _ e)
    exact looks_ref h1 rfl
  | @dct a e _ _ =>
    cases r
    obtain ⟨_, _, vs, _, o, es, ep, h1, h2, _⟩ := (show ObjOk X.prog X.w H s.heap a (.dK []) from I.hok a _ e)
    exact looks_ref h1 h2.1
  | tup e _ =>
    cases r
    obtain ⟨its, _, ht, _⟩ := I.tuple e
    obtain ⟨o, ho, hc, _⟩ := ht
    exact looks_ref ho hc
end
/-- what the class says of its own == and len, and that it has no own != -/
structure OwnC (K : PySem.W.Frag) (C fE fL : Addr) : Prop where
  eq : PySem.W.findIn K (.ref C) "__eq__" = some (some (.ref fE))
  eqf : PySem.W.isFn K (.ref fE) = true
  ne : PySem.W.findIn K (.ref C) "__ne__" = some (some (.builtin "object.__ne__"))
  ob : PySem.W.subIn K (.ref C) (.type "object") = some true
  ln : PySem.W.findIn K (.ref C) "__len__" = some (some (.ref fL))
  lnf : PySem.W.isFn K (.ref fL) = true
  nt : ∀ T ∈ (["NoneType", "bool", "int", "str", "list", "tuple", "dict"] : List String), PySem.W.subIn K (.type T) (.ref C) = some false
theorem tyD_mem (d : PyData) : tyD d ∈ (["NoneType", "bool", "int", "str", "list", "tuple", "dict"] : List String) := by cases d <;> simp [tyD]
section
variable {X : Cx} {CX : CXT} {C fE fL : Addr} {k : Nat} {fd : FuncData} {ps : List Str} {sp : Sp} {E : XK}
theorem run_in {A : Around} {pins : List (Addr × Obj)} {σ : L2.St} {H : Hp} {s : Shared} {Q : VK} {us : List Value} {vs : List V} {f : Addr} (F : FnOk X.prog X.w X.K X.mg X.base CX k f fd ps sp) (hr : Room k A) (hA : A.frames = X.A.frames) (hb : Binds X.K fd ps []) (hx : Passes CX X E)
    (I : Inv X pins σ H s) (r : Vals vs us) (h : sp vs H Q E) : wpAny (model X.prog X.w) A (call (.ref f) us) (EP X pins σ Q) X.xe s := by
  have e0 : Env0 X.prog X.w X.K X.mg X.base A X.stack s H := by
    have e := I.env0
    exact ⟨by rw [hA]; exact e.frames, e.mod, e.bs, e.bsz, e.funs, e.frf, e.hok, e.bare⟩
  have hl := F.len _ _ _ _ h
  have l2 := r.length
  refine wpAny_call (codeAny_mono (F.run A X.stack s H ⟨us, []⟩ us vs Q E hr e0 (by
    have := hb s us I.kIn (by simp; omega)
    simpa using this) r h) fun r s' hq => ?_)
  cases r with
  | error e => exact hx pins σ H s e s' I hq
  | ok fl =>
    cases fl with
    | ret w => exact I.after hq
    | next => exact False.elim hq
    | brk => exact False.elim hq
    | cont => exact False.elim hq
/-- x == y, x an instance; y another one, or data -/
def OthV (X : Cx) (C : Addr) (H : Hp) (y : V) : Prop := (∃ b dy gs, y = .ref b ∧ H b = some (.ins C dy gs)) ∨ ∃ m l d, Dq X.K H m l y d
def rOwnQ (X : Cx) (C : Addr) (sp : Sp) (neg : Bool) (E : XK) : R2 := fun x y H Q => ∃ a dx fs, x = .ref a ∧ H a = some (.ins C dx fs) ∧ OthV X C H y ∧ sp [.ref a, y] H (fun v H' => ∃ b, v = .bl b ∧ Q (.bl (if neg then !b else b)) H') E
theorem oth_looks {M : Model} {pins : List (Addr × Obj)} {σ : L2.St} {H : Hp} {s : Shared} {y : V} {u : Value} (O : OwnC X.K C fE fL) (I : Inv X pins σ H s) (h : OthV X C H y) (r : RelV y u) : ∃ t, PySem.W.Looks M s.heap (typeOf u) t ∧ PySem.W.notFirst X.K C t = true := by
  rcases h with ⟨b, dy, gs, rfl, hb⟩ | ⟨m, l, d, hd⟩
  · cases r
    obtain ⟨mB, J', _⟩ := ins_get I.hok hb
    obtain ⟨od', J', _⟩ := J'.look
    exact ⟨.ref C, J'.type, by simp [PySem.W.notFirst]⟩
  · refine ⟨_, dq_looks I hd r, ?_⟩
    unfold PySem.W.notFirst
    rw [O.nt _ (tyD_mem d)]
    simp
theorem op_eqOwn (O : OwnC X.K C fE fL) (F : FnOk X.prog X.w X.K X.mg X.base CX k fE fd ps sp) (hr : Room k X.A) (hb : Binds X.K fd ps []) (hx : Passes CX X E) : OpR X (compareOp .Eq) (rOwnQ X C sp false E) := by
  intro pins s σ H x y v u Q I rx ry h
  obtain ⟨a, dx, fs, rfl, ha, ho, h⟩ := h
  cases rx
  obtain ⟨mA, J, _⟩ := ins_get I.hok ha
  obtain ⟨od, J, _⟩ := J.look
  obtain ⟨m, hF⟩ := I.fr
  obtain ⟨t, lt, nt⟩ := oth_looks (M := model X.prog X.w) O I ho ry
  show wpAny (model X.prog X.w) X.A (richCompare .Eq (.ref a) u) (EP X pins σ Q) X.xe s
  refine PySem.W.cmp_K (op := .Eq) hr.units0 hF I.ok.mod.kin J lt nt O.eq O.eqf ?_
  refine wpAny_mono (run_in (vs := [.ref a, y]) F hr rfl hb hx I (.cons rfl (.cons ry .nil)) h) (fun w s' hw => ?_) fun _ _ z => z
  obtain ⟨z, H', I', rz, b, ez, q⟩ := hw
  subst ez
  cases rz
  exact ⟨.bl b, H', I', rfl, q⟩
theorem ifBound_blt {M : Model} {A : Around} {E : Value → Shared → Prop} {s : Shared} {K : PySem.W.Frag} {x C : Addr} {ox : Obj} {od : Option Obj} {name : Str} {id B : String} {args : List Value} {Q : Option Value → Shared → Prop} (X : K.In s.heap) (I : PySem.W.InstAt s.heap x ox C od)
    (hs : PySem.W.findIn K (.ref C) name = some (some (.builtin id))) (S : Slot B name id)
    (h : wpAny M A (call (.builtin id) (.ref x :: args)) (fun v => Q (some v)) E s) : wpAny M A (callSpecialIfBound? (.ref x) name args) Q E s := by
  simp only [callSpecialIfBound?, bindSpecialIfBound?]
  refine wpAny_holding (wpAny_bind (wpAny_bind (wpAny_bind (I.type.here ((PySem.W.looks_findIn X hs).here ?_)))))
  simp only [S.bind]
  refine wpAny_bind (wpAny_askSetting (wpAny_ite ?_))
  have fin : wpAny M A (call (.builtin id) ([.ref x] ++ args) >>= fun v => pure (some v)) Q E s := wpAny_bind (wpAny_mono h (fun v s' h' => wpAny_pure h') fun _ _ h' => h')
  split
  · exact wpAny_bind (wpAny_pure (wpAny_pure fin))
  · exact wpAny_tryCatch (wpAny_bind (wpAny_pure (wpAny_pure fin)))
theorem op_neOwn (O : OwnC X.K C fE fL) (F : FnOk X.prog X.w X.K X.mg X.base CX k fE fd ps sp) (hr : Room (k + 1) X.A) (hb : Binds X.K fd ps []) (hx : Passes CX X E) : OpR X (compareOp .NotEq) (rOwnQ X C sp true E) := by
  intro pins s σ H x y v u Q I rx ry h
  obtain ⟨a, dx, fs, rfl, ha, ho, h⟩ := h
  cases rx
  obtain ⟨mA, J, _⟩ := ins_get I.hok ha
  obtain ⟨od, J, _⟩ := J.look
  obtain ⟨t, lt, nt⟩ := oth_looks (M := model X.prog X.w) O I ho ry
  have hi : PySem.W.Looks (model X.prog X.w) s.heap (isInstance (.ref a) (.type "object")) true := J.type.andThen (PySem.W.looks_subIn I.kIn O.ob)
  have one : wpAny (model X.prog X.w) X.A (tryCompare (.ref a) "__ne__" u) (fun r s' => ∃ v, r = some v ∧ EP X pins σ Q v s') X.xe s := by
    simp only [tryCompare]
    refine wpAny_bind (ifBound_blt I.kIn J O.ne PySem.F.cmp_object.ne (wpAny_call (codeAny_call_builtin PySem.F.cmp_object.ne.plain PySem.F.cmpEntry_ne (PySem.W.check_slot PySem.F.cmpKind_ne PySem.F.cmpSplit_ne hi (PySem.F.cmpArgs_ne _ _) ?_))))
    unfold Builtin.«object.__ne__»
    repeat (first
      | with_reducible refine wpAny_cRoomFor hr.in1.units0 ?_
      | (refine wpAny_bind (m := callSpecialIfBound? (.ref a) "__eq__" [u]) (PySem.W.ifBound_K I.kIn J O.eq O.eqf (wpAny_mono (run_in (vs := [.ref a, y]) F hr.in1 rfl hb hx I (.cons rfl (.cons ry .nil)) h) (fun w s' hw => by
          obtain ⟨z, H', I', rz, b, ez, q⟩ := hw
          subst ez
          cases rz
          have fin : ∃ v, some (Value.bool (!b)) = some v ∧ EP X pins σ Q v s' := ⟨_, rfl, .bl (!b), H', I', rfl, q⟩
          repeat (first | exact fin | exact wpAny_pure fin | exact wpAny_pure (wpAny_pure fin) | exact wpAny_truthy_bool fin | (refine wpAny_bind (m := truthy (.bool _)) (wpAny_truthy_bool ?_)) | wp_step)) fun _ _ e => e)))
      | wp_step)
  show wpAny (model X.prog X.w) X.A (richCompare .NotEq (.ref a) u) (EP X pins σ Q) X.xe s
  unfold richCompare
  simp only [oneThing_ref]
  refine wpAny_holding (wpAny_bind (wpAny_cRoomFor hr.units0 ?_))
  refine wpAny_bind (J.type.here (wpAny_bind (lt.here ?_)))
  split
  · rename_i q
    have e : PySem.W.subIn X.K t (.ref C) = some false := by
      rcases Bool.or_eq_true_iff.mp nt with e | e
      · rw [beq_iff_eq.mp e] at q; simp at q
      · exact beq_iff_eq.mp e
    refine wpAny_bind ((PySem.W.looks_subIn I.kIn e).here ?_)
    simp only [Bool.false_eq_true, if_false]
    refine wpAny_bind (wpAny_mono one (fun r s' z => ?_) fun _ _ e => e)
    obtain ⟨v, rfl, hq⟩ := z
    exact wpAny_pure hq
  · refine wpAny_bind (wpAny_pure ?_)
    simp only [Bool.false_eq_true, if_false]
    refine wpAny_bind (wpAny_mono one (fun r s' z => ?_) fun _ _ e => e)
    obtain ⟨v, rfl, hq⟩ := z
    exact wpAny_pure hq
/-- len(x), x an instance -/
def rOwnL (C : Addr) (sp : Sp) (E : XK) : List V → Hp → VK → Prop := fun xs H Q => ∃ a dx fs, xs = [.ref a] ∧ H a = some (.ins C dx fs) ∧ sp [.ref a] H (fun v H' => ∃ n : Int, v = .int n ∧ 0 ≤ n ∧ n < 2 ^ 63 ∧ Q (.int n) H') E
theorem call_lenOwn (O : OwnC X.K C fE fL) (F : FnOk X.prog X.w X.K X.mg X.base CX k fL fd ps sp) (hr : Room (k + 1) X.A) (hb : Binds X.K fd ps []) (hx : Passes CX X E) : CallR X (.builtin "len") (rOwnL C sp E) := by
  intro pins s σ H xs us Q I r h
  obtain ⟨a, dx, fs, rfl, ha, h⟩ := h
  obtain ⟨u, rfl, rx⟩ := vals1 r
  cases rx
  obtain ⟨mA, J, _⟩ := ins_get I.hok ha
  obtain ⟨od, J, _⟩ := J.look
  obtain ⟨m, hF⟩ := I.fr
  refine PySem.W.len_K hF I.ok.mod.kin J O.ln O.lnf ?_
  refine wpAny_mono (run_in (vs := [.ref a]) F hr.in1 rfl hb hx I (.cons rfl .nil) h) (fun w s' hw => ?_) fun _ _ z => z
  obtain ⟨z, H', I', rz, n, ez, n0, n1, q⟩ := hw
  subst ez
  obtain ⟨t, rfl⟩ := rz
  exact ⟨⟨n0, n1⟩, .int n, H', I'.tok _, ⟨_, rfl⟩, q⟩
end
end Ms
namespace Ms
open PySem PySem.Spec PyProof.Rows L2 StX
/-! ### Request.__eq__, __len__, with_modes -/
section
variable {P : Program} {w : World} {K : PySem.W.Frag} {mg : Str → Option Value} {base : Heap} {fI fN fS fA fG fNu fAs fPl fMo fNP fNM fNd aE aM C CS CP CM fR : Addr}
/-- isinstance of data: no instance -/
def NotKit (K : PySem.W.Frag) (C : Addr) : Prop := ∀ T ∈ (["NoneType", "bool", "int", "str", "list", "tuple", "dict"] : List String), PySem.W.kitOne K (.type T) (.ref C) = some false
abbrev NEq : List Str := ["self", "other"]
theorem scEq : FnScope NEq ["self", "other"] (defScope sReqEq) := ⟨rfl, rfl, rfl, by decide +kernel, rfl, by decide +kernel, by decide +kernel⟩
/-- v is the data d, plain -/
structure Pl (K : PySem.W.Frag) (H : Hp) (m l : Addr) (v : V) (d : PyData) : Prop where
  dq : Dq K H m l v d
  nd : noDi d = true
  sh : SeqAt.shaped d = true
theorem Pl.same {m l : Addr} {H H' : Hp} {v : V} {d : PyData} (s : Same H H') (p : Pl K H m l v d) : Pl K H' m l v d := ⟨Dq.same s _ _ p.dq, p.nd, p.sh⟩
def spREq (K : PySem.W.Frag) (C : Addr) : Sp := fun vs H Q _ => ∃ (x dx : Addr) (v1 v2 v3 y : V), vs = [.ref x, y] ∧ H x = some (.ins C dx (reqF v1 v2 v3)) ∧
  ((∃ m l d, Dq K H m l y d ∧ Q (.bl false) H) ∨ ∃ (z dz m l : Addr) (u1 u2 u3 : V) (d1 d2 d3 e1 e2 e3 : PyData), y = .ref z ∧ H z = some (.ins C dz (reqF u1 u2 u3)) ∧
    Pl K H m l v1 d1 ∧ Pl K H m l v2 d2 ∧ Pl K H m l v3 d3 ∧ Pl K H m l u1 e1 ∧ Pl K H m l u2 e2 ∧ Pl K H m l u3 e3 ∧ Q (.bl (PyData.eqv d1 e1 && (PyData.eqv d2 e2 && PyData.eqv d3 e3))) H)
theorem ok_req_eq {f : Addr} {fd : FuncData} {qual : Str} (F : Fun K "__eq__" qual sReqEq f fd) (hisi : mg "isinstance" = none) (gC : mg "Request" = some (.ref C)) (RC : ReqC K C) (IC : C8.InsC K C) (NK : NotKit K C) :
    FnOk P w K mg base CX0 1 f fd ["self", "other"] (spREq K C) := by
  refine F.ok scEq (fun vs H Q E h => ?_) (fun cdv A outer s H vs Q E hr h => ?_)
  · obtain ⟨x, dx, v1, v2, v3, y, rfl, _⟩ := h
    rfl
  obtain ⟨x, dx, v1, v2, v3, y, rfl, hx, h⟩ := h
  refine ⟨_, pss_one (ps_ret (pe_and (pe_callB call_isi (by rfl) hisi PyProof.Rows.boot_isinstance (pa_cons (pv 1) (pa_cons (pe_glob (v := .ref C) rfl gC rfl) pa_nil)))
    (pe_and (pe_cmpR (show OpR _ (compareOp .Eq) (rEqD K) from op_eqD (by exact hr.units)) (pe_fld (pv 0) rfl) (pe_fld (pv 1) rfl) (by rfl))
    (pe_and (pe_cmpR (show OpR _ (compareOp .Eq) (rEqD K) from op_eqD (by exact hr.units)) (pe_fld (pv 0) rfl) (pe_fld (pv 1) rfl) (by rfl))
    (pe_one (pe_cmpR (show OpR _ (compareOp .Eq) (rEqD K) from op_eqD (by exact hr.units)) (pe_fld (pv 0) rfl) (pe_fld (pv 1) rfl) (by rfl))))))), ?_⟩
  rcases h with ⟨m, l, d, hd, q⟩ | ⟨z, dz, m, l, u1, u2, u3, d1, d2, d3, e1, e2, e3, rfl, hz, p1, p2, p3, r1, r2, r3, q⟩
  · exact ⟨_, rfl, y, .ref C, _, _, _, rfl, .own C, hd.ty, NK _ (tyD_mem d), _, rfl, ifF rfl q⟩
  · refine ⟨_, rfl, .ref z, .ref C, _, _, _, rfl, .own C, .base (TyOf.ins hz IC.cl IC.ha IC.hn IC.htk IC.hm), IC.me, _, rfl, ifT rfl ?_⟩
    refine ⟨_, rfl, x, C, dx, _, _, rfl, hx, RC.cl, RC.nS, rfl, _, rfl, z, C, dz, _, _, rfl, hz, RC.cl, RC.nS, rfl, ?_⟩
    refine ⟨_, _, Dq.dp _ _ p1.dq p1.nd, Dq.dp _ _ r1.dq r1.nd, p1.sh, r1.sh, _, rfl, ?_⟩
    cases c1 : PyData.eqv d1 e1 with
    | false =>
      rw [c1] at q
      exact ifF rfl q
    | true =>
      rw [c1, Bool.true_and] at q
      refine ifT rfl ?_
      refine ⟨_, rfl, x, C, dx, _, _, rfl, hx, RC.cl, RC.nP, rfl, _, rfl, z, C, dz, _, _, rfl, hz, RC.cl, RC.nP, rfl, ?_⟩
      refine ⟨_, _, Dq.dp _ _ p2.dq p2.nd, Dq.dp _ _ r2.dq r2.nd, p2.sh, r2.sh, _, rfl, ?_⟩
      cases c2 : PyData.eqv d2 e2 with
      | false =>
        rw [c2] at q
        exact ifF rfl q
      | true =>
        rw [c2, Bool.true_and] at q
        refine ifT rfl ?_
        refine ⟨_, rfl, x, C, dx, _, _, rfl, hx, RC.cl, RC.nM, rfl, _, rfl, z, C, dz, _, _, rfl, hz, RC.cl, RC.nM, rfl, ?_⟩
        exact ⟨_, _, Dq.dp _ _ p3.dq p3.nd, Dq.dp _ _ r3.dq r3.nd, p3.sh, r3.sh, q⟩
theorem scLn : FnScope ["self"] ["self"] (defScope sReqLen) := ⟨rfl, rfl, rfl, by decide +kernel, rfl, by decide +kernel, by decide +kernel⟩
def spRLen (K : PySem.W.Frag) (C : Addr) : Sp := fun vs H Q _ => ∃ (x dx pP : Addr) (v1 v3 : V) (ps : List V), vs = [.ref x] ∧ H x = some (.ins C dx (reqF v1 (.ref pP) v3)) ∧ SqT K H pP ps ∧ Q (.int ps.length) H
theorem ok_req_len {f : Addr} {fd : FuncData} {qual : Str} (F : Fun K "__len__" qual sReqLen f fd) (hlen : mg "len" = none) (RC : ReqC K C) : FnOk P w K mg base CX0 1 f fd ["self"] (spRLen K C) := by
  refine F.ok scLn (fun vs H Q E h => ?_) (fun cdv A outer s H vs Q E hr h => ?_)
  · obtain ⟨x, dx, pP, v1, v3, ps, rfl, _⟩ := h
    rfl
  obtain ⟨x, dx, pP, v1, v3, ps, rfl, hx, hP, q⟩ := h
  refine ⟨_, pss_one (ps_ret (pe_callB call_len (by rfl) hlen PySem.boot_len (pa_cons (pe_fld (pv 0) rfl) pa_nil))), ?_⟩
  exact ⟨_, rfl, x, C, dx, _, _, rfl, hx, RC.cl, RC.nP, rfl, .ref pP, ps.length, rfl, .inr ⟨ps, hP, rfl⟩, q⟩
abbrev NWm : List Str := ["self", "modes"]
theorem scWm : FnScope NWm ["self", "modes"] (defScope sReqWith) := ⟨rfl, rfl, rfl, by decide +kernel, rfl, by decide +kernel, by decide +kernel⟩
def spWith (K : PySem.W.Frag) (C CM : Addr) : Sp := fun vs H Q E => ∃ (m l x dx pS : Addr) (xs : List V) (ys : List (Str × Int)) (vP vM v : V) (dP d : PyData), vs = [.ref x, v] ∧ H x = some (.ins C dx (reqF (.ref pS) vP vM)) ∧ SetOk ys ∧ SqT K H pS xs ∧ DqAll K H m l xs (prD ys) ∧
  Dq K H m l vP dP ∧ Gd big 100000 3 dP ∧ placesV ys dP = none ∧ Dq K H m l v d ∧ (∀ u, modesV ys.length d = some u → ∀ e H', H e = none → Same H H' → H' e = some (.xd [("place", u)]) → E (.ref CM) (some e) H') ∧
  (modesV ys.length d = none → ∀ x' dx' v3 H', Same H H' → H x' = none → H' x' = some (.ins C dx' (reqF (.ref pS) vP v3)) → Dq K H' m l v3 d → Q (.ref x') H')
theorem ok_with {f : Addr} {fd fdNM fdR : FuncData} {qual : Str} (F : Fun K "with_modes" qual sReqWith f fd) (RC : ReqC K C) (M : Mk K C fR) (gR : mg "Request" = some (.ref C)) (gN : mg "need_modes" = some (.ref fNM))
    (GR : FnOk P w K mg base (L2.CX P w) 6 fR fdR psS (spReq K C CS CP CM)) (b4 : Binds K fdR psS [])
    (GNM : FnOk P w K mg base (L2.CX P w) 3 fNM fdNM ["settings", "modes"] (spNMo K CM)) (kNM : PySem.W.keepIn K (.ref fNM) = true) (bNM : Binds K fdNM ["settings", "modes"] []) :
    FnOk P w K mg base (L2.CX P w) 8 f fd ["self", "modes"] (spWith K C CM) := by
  refine F.okX scWm (fun vs H Q E h => ?_) (fun cdv A outer s H vs Q E hr h => ?_)
  · obtain ⟨m, l, x, dx, pS, xs, ys, vP, vM, v, dP, d, rfl, _⟩ := h
    rfl
  obtain ⟨m, l, x, dx, pS, xs, ys, vP, vM, v, dP, d, rfl, hx, so, hS, hsd, hP, gP, pno, hd, qe, q⟩ := h
  have hr3 : Room 3 _ := hr.mono (by decide)
  refine ⟨_, pss_one (ps_ret (pe_make M GR hr (by rfl) gR b4 .nil (passes_call (takes_of rfl rfl rfl rfl) fun _ _ _ _ h => h) (pa_cons (pe_fld (pv 0) rfl) (pa_cons (pe_fld (pv 0) rfl)
    (pa_cons (pe_call GNM hr3 (by rfl) gN kNM bNM .nil (passes_call (takes_of rfl rfl rfl rfl) fun _ _ _ _ h => h) (pa_cons (pe_fld (pv 0) rfl) (pa_cons (pv 1) pa_nil))) pa_nil))))), ?_⟩
  have lx : xs.length = ys.length := by have := hsd.len; rw [this]; exact List.length_map ..
  refine ⟨_, rfl, x, C, dx, _, _, rfl, hx, RC.cl, RC.nS, rfl, _, rfl, x, C, dx, _, _, rfl, hx, RC.cl, RC.nP, rfl, _, rfl, x, C, dx, _, _, rfl, hx, RC.cl, RC.nS, rfl, _, rfl, ?_⟩
  refine ⟨m, l, pS, xs, v, d, rfl, hS, hd, fun hm H1 s1 => ?_, fun u hu => qe u (by rw [← lx]; exact hu)⟩
  rw [lx] at hm
  intro x' dx' hx' hdx' ne'
  have ew : wordsD ys.length d = d := by
    cases d with
    | none => cases hm
    | _ => rfl
  refine req_okQ (b1 := 2) (B1 := 10 ^ 31) (b2 := 3) (B2 := big) so (Dq.same s1 _ _ (.tup hS hsd)) ((spots_goodK so).mono (Nat.le_refl _) (by decide) (Nat.le_refl _)) (Dq.same s1 _ _ hP) gP (Dq.same s1 _ _ hd) pno (by rw [ew]; exact hm) hx' hdx' ne' fun v3' H7 s7 gx' d3 => ⟨rfl, ?_⟩
  rw [ew] at d3
  exact q hm x' dx' v3' H7 (s1.trans s7) (Same.free s1 hx') gx' d3
end
end Ms
namespace Ms
open PySem PySem.Spec PyProof.Rows L2 LamX
/-! ### several defs of the law's make lambdas: each one's table is told -/
abbrev tabO : Obj := { cls := .none, data := .fields #[] }
section
variable {P : Program} {w : World} {K : PySem.W.Frag} {mg : Str → Option Value} {base : Heap}
/-- as LawRun; ts: the code objects with their tables, empty as yet -/
def LawRunTs (P : Program) (w : World) (K : PySem.W.Frag) (mg : Str → Option Value) (fa : Addr) (ts : List (Addr × Addr)) : Prop :=
  ∀ (base : Heap) (H : Hp) (s : Shared) (a : Addr) (ns : List Int), K.In base → base.Ns mainGlobals mg → (∀ p ∈ ts, TabB base mg p.1 p.2) → (∀ p ∈ ts, H p.2 = some (.tbl #[])) → SqL K H a (ns.map V.int) → ns.length ≤ 63 → Env0 P w K mg base callerA [] s H →
    codeAny (model P w) callerA (.call (.ref fa) ⟨[.ref a], []⟩) (CR CX0 [] P w H s (fun v _ => v = .bl true) fun _ _ _ => False) s
/-- the script and the tables stand alone in the heap that is told -/
structure AloneS (H : Hp) (h : Heap) (K : PySem.W.Frag) (a : Addr) (ts : List (Addr × Addr)) : Prop where
  only : ∀ b, H b = none ∨ (∃ p ∈ ts, b = p.2) ∨ ∃ ob xs, H b = some (.frz ob (.lst xs))
  here : ∀ b, H b ≠ none → b = a ∨ ∃ p ∈ ts, b = p.2
  off : H a ≠ none → K.lookup a = none
  offT : ∀ p ∈ ts, K.lookup p.2 = none
  tab : ∀ p ∈ ts, h.get? p.2 = some tabO
  told : ∀ p ∈ ts, H p.2 = some (.tbl #[])
section
variable {H : Hp} {h : Heap} {a c T : Addr} {ts : List (Addr × Addr)} {vs : Array Value}
theorem AloneS.hidden (x : AloneS H h K a ts) (ea : h.get? a = some { cls := .type "list", data := .seq vs }) {b : Addr} {o : Obj} (e : h.get? b = some o) (d1 : o.data ≠ .seq vs) (d2 : o.data ≠ .fields #[]) : H b = none := by
  cases q : H b with
  | none => rfl
  | some u =>
    rcases x.here b (by rw [q]; exact fun z => nomatch z) with z | ⟨p, hp, z⟩
    · rw [z, ea] at e
      cases e
      exact absurd rfl d1
    · rw [z, x.tab p hp] at e
      cases e
      exact absurd rfl d2
theorem AloneS.see (x : AloneS H h K a ts) (ea : h.get? a = some { cls := .type "list", data := .seq vs }) {b : Addr} {o : Obj} (e : h.get? b = some o) (d1 : o.data ≠ .seq vs) (d2 : o.data ≠ .fields #[]) : (hidT h H).get? b = some o := hidT_get e (x.hidden ea e d1 d2)
theorem AloneS.ns (x : AloneS H h K a ts) (ea : h.get? a = some { cls := .type "list", data := .seq vs }) {b : Addr} {m : Str → Option Value} (n : h.Ns b m) : (hidT h H).Ns b m := by
  obtain ⟨o, es, ep, e, d, r⟩ := n
  refine ⟨o, es, ep, x.see ea e ?_ ?_, d, r⟩ <;> (rw [d]; intro z; cases z)
theorem AloneS.kin (x : AloneS H h K a ts) (X : K.In h) : K.In (hidT h H) := fun b o e => by
  refine hidT_get (X b o e) ?_
  cases q : H b with
  | none => rfl
  | some u =>
    have nq : H b ≠ none := by rw [q]; exact fun z => nomatch z
    rcases x.here b nq with z | ⟨p, hp, z⟩
    · rw [z, x.off (by rw [← z]; exact nq)] at e
      cases e
    · rw [z, x.offT p hp] at e
      cases e
theorem AloneS.hd (x : AloneS H h K a ts) (ea : h.get? a = some { cls := .type "list", data := .seq vs }) (C : PySem.W.CodeHd h c T) : PySem.W.CodeHd (hidT h H) c T := by
  obtain ⟨o, us, f, tf, g, tg, inF, n, tt, e, r1, r2, r3, r⟩ := C
  refine ⟨o, us, f, tf, g, tg, inF, n, tt, x.see ea e ?_ ?_, r1, r2, r3, r⟩
  · rw [r2]; intro z; cases z
  · intro z
    rw [r2] at z
    cases z
    simp at r3
end
theorem laws_told {fa a : Addr} {ts : List (Addr × Addr)} {s : Shared} {vs : List Value} {ns : List Int} {mb : Str → Option Value} {H : Hp} (R : LawRunTs P w K mg fa ts) (al : AloneS H s.heap K a ts)
    (X : K.In s.heap) (g : s.heap.Ns mainGlobals mg) (b : s.heap.Ns builtinsNs mb) (bb : ∀ x : Str, x ≠ "__name__" → mb x = bootBuiltins x) (lim : s.heap.NoLimit) (gs : s.gens = #[]) (C : ∀ p ∈ ts, PySem.W.CodeHd s.heap p.1 p.2)
    (bm : ∃ (bm : Addr) (ob : Obj), mg "__builtins__" = some (.ref bm) ∧ bm ≠ builtinsNs ∧ s.heap.get? bm = some ob ∧ ob.cls = .type "module" ∧ ob.dict = some builtinsNs ∧ ob.data = .plain)
    (ea : s.heap.get? a = some { cls := .type "list", data := .seq vs.toArray }) (hS : SqL K H a (ns.map V.int)) (hl : ns.length ≤ 63) (ok : HOk P w H s.heap) :
    codeAny (model P w) callerA (.call (.ref fa) ⟨[.ref a], []⟩) (fun r s' => r = .ok (.ret (.bool true)) ∧ OldK s.heap s'.heap ∧ s'.os = s.os ∧ AllBare s'.gens) s := by
  have M : L2.Mod K mg (hidT s.heap H) := by
    refine ⟨al.kin X, al.ns ea g, ⟨mb, al.ns ea b, bb⟩, ?_⟩
    obtain ⟨mc, l1, l2⟩ := lim
    exact ⟨mc, al.ns ea l1, l2⟩
  have TB : ∀ p ∈ ts, TabB (hidT s.heap H) mg p.1 p.2 := fun p hp => by
    have hTab := al.tab p hp
    have gT : mainGlobals ≠ p.2 := fun z => by
      obtain ⟨o, es, ep, e, d, _⟩ := g
      rw [z, hTab] at e
      cases e
      cases d
    refine ⟨al.hd ea (C p hp), ?_, gT⟩
    obtain ⟨q, ob, b1, b2, b3, b4, b5, b6⟩ := bm
    have nG : q ≠ mainGlobals := fun z => by
      obtain ⟨o, es, ep, e, d, _⟩ := g
      rw [z, e] at b3
      cases b3
      rw [d] at b6
      cases b6
    have nT : q ≠ p.2 := fun z => by
      rw [z, hTab] at b3
      cases b3
      cases b6
    refine ⟨q, ob, b1, b2, nG, nT, al.see ea b3 ?_ ?_, b4, b5, b6⟩ <;> (rw [b6]; intro z; cases z)
  have st0 : Env0 P w K mg (hidT s.heap H) callerA [] s H := by
    refine ⟨rfl, M, fun b o e => of_hidT e, Nat.le_of_eq (hidT_size _ _), trivial, fun b hb => ?_, ok, AllBare.of_eq gs⟩
    cases (show b ∈ ([] : List Addr) from hb)
  refine codeAny_mono (R _ H s a ns M.kin M.glob TB al.told hS hl st0) fun r s' q => ?_
  match r, q with
  | .error e, q => exact False.elim q
  | .ok (.next), q => exact False.elim q
  | .ok (.brk), q => exact False.elim q
  | .ok (.cont), q => exact False.elim q
  | .ok (.ret u), q =>
    obtain ⟨v, H', eos, bare, un, ok', rv, qv⟩ := q
    have qv' : v = .bl true := qv
    subst qv'
    obtain rfl : u = Value.bool true := rv
    have eT : ∀ p ∈ ts, ∃ more, s'.heap.get? p.2 = some { cls := .none, data := .fields (#[] ++ more) } := fun p hp => by
      obtain ⟨more, hm⟩ := un.tbls p.2 #[] (al.told p hp)
      exact ⟨more, ok' p.2 _ hm⟩
    have other : ∀ b o, (∀ p ∈ ts, b ≠ p.2) → s.heap.get? b = some o → s'.heap.get? b = some o := fun b o nb e => by
      rcases al.only b with z | ⟨p, hp, z⟩ | ⟨ob, xs, z⟩
      · exact un.keep b o e z (fun y => by cases (show b ∈ ([] : List Addr) from y)) (by simp)
      · exact absurd z (nb p hp)
      · have h1 := (ok b _ z).1
        have h2 := (ok' b _ (un.frzs b ob _ z)).1
        rw [e] at h1
        cases h1
        exact h2
    refine And.intro rfl (And.intro ⟨fun b o e => ?_, fun b o e => ?_⟩ (And.intro eos bare))
    · by_cases hb : ∃ p ∈ ts, b = p.2
      · obtain ⟨p, hp, rfl⟩ := hb
        rw [al.tab p hp] at e
        cases e
        obtain ⟨more, hm⟩ := eT p hp
        exact .inr (.inl ⟨((C p hp).tab (al.tab p hp)).isCodeTable, rfl, #[], more, rfl, hm⟩)
      · exact .inl (other b o (fun p hp z => hb ⟨p, hp, z⟩) e)
    · by_cases hb : ∃ p ∈ ts, b = p.2
      · obtain ⟨p, hp, rfl⟩ := hb
        obtain ⟨more, hm⟩ := eT p hp
        exact ⟨_, hm⟩
      · exact ⟨o, other b o (fun p hp z => hb ⟨p, hp, z⟩) e⟩
/-- what is told at the beginning: the tables, and u at a -/
noncomputable def begH (ts : List (Addr × Addr)) (a : Addr) (u : Option HO) : Hp := fun b => open Classical in if b = a then u else if (∃ p ∈ ts, b = p.2) then some (.tbl #[]) else Option.none
theorem begH_a (ts : List (Addr × Addr)) (a : Addr) (u : Option HO) : begH ts a u a = u := if_pos rfl
theorem begH_t {ts : List (Addr × Addr)} {a : Addr} {u : Option HO} {p : Addr × Addr} (hp : p ∈ ts) (n : p.2 ≠ a) : begH ts a u p.2 = some (.tbl #[]) := (if_neg n).trans (if_pos ⟨p, hp, rfl⟩)
theorem begH_n {ts : List (Addr × Addr)} {a b : Addr} {u : Option HO} (n : b ≠ a) (h : ¬ ∃ p ∈ ts, b = p.2) : begH ts a u b = none := (if_neg n).trans (if_neg h)
theorem laws_tabled {fa a : Addr} {ts : List (Addr × Addr)} {s : Shared} {vs : List Value} {ns : List Int} {mb : Str → Option Value} (R : LawRunTs P w K mg fa ts)
    (X : K.In s.heap) (g : s.heap.Ns mainGlobals mg) (b : s.heap.Ns builtinsNs mb) (bb : ∀ x : Str, x ≠ "__name__" → mb x = bootBuiltins x) (lim : s.heap.NoLimit) (gs : s.gens = #[]) (C : ∀ p ∈ ts, PySem.W.CodeHd s.heap p.1 p.2)
    (bm : ∃ (bm : Addr) (ob : Obj), mg "__builtins__" = some (.ref bm) ∧ bm ≠ builtinsNs ∧ s.heap.get? bm = some ob ∧ ob.cls = .type "module" ∧ ob.dict = some builtinsNs ∧ ob.data = .plain)
    (et : ∀ p ∈ ts, s.heap.get? p.2 = some tabO) (nt : ∀ p ∈ ts, K.lookup p.2 = none)
    (ea : s.heap.get? a = some { cls := .type "list", data := .seq vs.toArray }) (hi : IntsAre vs ns) (hl : ns.length ≤ 63) :
    codeAny (model P w) callerA (.call (.ref fa) ⟨[.ref a], []⟩) (fun r s' => r = .ok (.ret (.bool true)) ∧ OldK s.heap s'.heap ∧ s'.os = s.os ∧ AllBare s'.gens) s := by
  have rel := vals_ints hi
  have ll := hi.length
  have hl2 : ns.length ≤ sizeLine := Nat.le_trans hl (by decide)
  have naT : ∀ p ∈ ts, p.2 ≠ a := fun p hp z => by
    have e := et p hp
    rw [z, ea] at e
    cases e
  have main : ∀ u : Option HO, (u = none ∨ ∃ ob xs, u = some (.frz ob (.lst xs))) → (u ≠ none → K.lookup a = none) → SqL K (begH ts a u) a (ns.map V.int) → (∀ o, u = some o → ObjOk P w (begH ts a u) s.heap a o) →
      codeAny (model P w) callerA (.call (.ref fa) ⟨[.ref a], []⟩) (fun r s' => r = .ok (.ret (.bool true)) ∧ OldK s.heap s'.heap ∧ s'.os = s.os ∧ AllBare s'.gens) s := fun u hu hk hS hok => by
    refine laws_told (H := begH ts a u) R ⟨fun b => ?_, fun b z => ?_, fun z => hk (by rw [begH_a] at z; exact z), nt, et, fun p hp => begH_t hp (naT p hp)⟩ X g b bb lim gs C bm ea hS hl (fun b o z => ?_)
    · by_cases h1 : b = a
      · rw [h1, begH_a]
        rcases hu with h | ⟨ob, xs, h⟩
        · exact .inl h
        · exact .inr (.inr ⟨ob, xs, h⟩)
      · by_cases hb : ∃ p ∈ ts, b = p.2
        · exact .inr (.inl hb)
        · exact .inl (begH_n h1 hb)
    · by_cases h1 : b = a
      · exact .inl h1
      · by_cases hb : ∃ p ∈ ts, b = p.2
        · exact .inr hb
        · exact absurd (begH_n h1 hb) z
    · by_cases h1 : b = a
      · subst h1
        exact hok o (by rw [begH_a] at z; exact z)
      · by_cases hb : ∃ p ∈ ts, b = p.2
        · obtain ⟨p, hp, rfl⟩ := hb
          rw [begH_t hp (naT p hp)] at z
          cases z
          exact et p hp
        · rw [begH_n h1 hb] at z
          cases z
  cases lk : K.lookup a with
  | some o =>
    have e := X a o lk
    rw [ea] at e
    cases e
    refine main none (.inl rfl) (fun z => absurd rfl z) ?_ (fun o z => nomatch z)
    refine .inr ⟨_, vs.toArray, _, lk, rfl, rfl, rfl, ?_, by simpa using rel⟩
    rw [List.size_toArray, ll]
    exact hl2
  | none =>
    refine main (some (.frz { cls := .type "list", data := .seq vs.toArray } (.lst (ns.map V.int)))) (.inr ⟨_, _, rfl⟩) (fun _ => lk) (.inl (.inr ⟨_, begH_a ts a _⟩)) (fun o z => ?_)
    cases z
    exact ⟨ea, by rw [List.length_map]; exact hl2, vs, _, rel, ea⟩
/-- the end of such a law's row -/
theorem walk_tableds {l : PySem.W.OpenLaw} {q : Program} {loose : List Str} {XP : (Str → Option Value) → Heap → Prop} {YP : World → Heap → Prop} {d : DefRec} {K : Params → PySem.W.Frag} {ts : List (Addr × Addr)} (hn : l.most = some 63) (hdf : d.params.defaults = [])
    (hY : ∀ (w : World) (h : Heap), YP w h → (K w.params).In h) (ht : ∀ (w : World) (h : Heap), YP w h → ∀ p ∈ ts, h.get? p.2 = some tabO) (hc : ∀ w : World, ∀ p ∈ ts, PySem.W.codeHdIn (K w.params) p.1 p.2 = true) (nt : ∀ w : World, ∀ p ∈ ts, (K w.params).lookup p.2 = none)
    (R : ∀ (w : World) (mg : Str → Option Value) (fa : Addr) (h : Heap), (K w.params).In h → h.Ns mainGlobals mg → mg d.name = some (.ref fa) → LawRunTs l.prog w (K w.params) mg fa ts) :
    PySem.W.WalkO q loose XP YP l.row.toRowW d [] (fun f vs => PySem.call f vs) := by
  refine Att.attach_call hn hdf fun w s₀ s₁ mg mb fa o pm cd doc a vs ns G Y ho hd hcd hmg hobj hints hlen hg => ?_
  have KX := hY w _ Y
  exact laws_tabled (R w mg fa _ KX G.T.g hmg) KX G.T.g G.T.b G.T.builtins G.T.nolimit hg (fun p hp => PySem.W.codeHd_of_K KX (hc w p hp)) G.T.bmain (ht w _ Y) (nt w) hobj hints hlen
end
end Ms
namespace Ms
open PySem PySem.Spec PyProof.Rows L2 LamX StX
/-! ### _law_kept_right of law k06: its state, its last two statements -/
abbrev NK : List Str := ["m", "spots", "places", "words", "one", "names", "word", "due", "both", "told", "name", "most", "old"]
theorem scK : FnScope NK ["m"] (defScope sKept) := ⟨rfl, rfl, rfl, by decide +kernel, rfl, by decide +kernel, by decide +kernel⟩
abbrev kQ : Str := "_law_kept_right.<locals>.<lambda>"
abbrev lamQ : Str := "law.<locals>.<lambda>"
abbrev tabsK (Pk Pl : Addr) : List (Addr × Str) := [(Pk, kQ), (Pl, lamQ)]
theorem noTk {X : Cx} : Takes X (fun _ _ _ _ => False) := fun _ _ ⟨_, _, _, _, _, _, _, _, _, _, _, _, _, _, _, _, w⟩ => w.elim
theorem DqAll.ext {K : PySem.W.Frag} {H H' : Hp} {m l : Addr} (e : ExtN H H') {vs : List V} {ds : List PyData} (h : DqAll K H m l vs ds) : DqAll K H' m l vs ds :=
  DqAll.gen (fun a xs q n1 n2 => ⟨e _ _ q (fun _ z => nomatch z), n1, n2⟩) (fun a xs q => ExtN.seqT e q) (fun a q n1 n2 => ⟨e _ _ q (fun _ z => nomatch z), n1, n2⟩) ds vs h
def plcD : PyData := .tuple [.tuple [.str "end"]]
theorem plc_good : Gd big 100000 3 plcD := by
  have g : Gd big 460 2 (.tuple [.str "end"]) := end_good
  exact (Gd.tup (Gl'.one g)).mono (Nat.le_refl _) (by decide) (by decide)
theorem plc_no {ys : List (Str × Int)} (so : SetOk ys) : placesV ys plcD = none := places_no so.nodup (by decide) (by decide) fun d hd => .inl (List.mem_singleton.mp hd)
structure C6 (K : PySem.W.Frag) (C CM CI fKp : Addr) : Prop where
  RC : ReqC K C
  MM : PySem.W.exmOne K (.ref CM) (.ref CM) = some true
  IM : PySem.W.exmOne K (.ref CI) (.ref CM) = some false
  II : PySem.W.exmOne K (.ref CI) (.ref CI) = some true
  RM : RefM K CM
  RI : RefI K CI
  mt : Meth K C "keeping" fKp
structure G6 (mg : Str → Option Value) (fTo C CM CI : Addr) : Prop where
  told : mg "_law_told" = some (.ref fTo)
  req : mg "Request" = some (.ref C)
  bm : mg "BadModes" = some (.ref CM)
  mi : mg "Missing" = some (.ref CI)
structure Kps (P : Program) (w : World) (K : PySem.W.Frag) (mg : Str → Option Value) (base : Heap) (C CM CI fKp : Addr) : Prop where
  ka : FnKw P w K mg base (L2.CX P w) 8 fKp ["a"] (spKeep K C CM CI ["a"])
  kba : FnKw P w K mg base (L2.CX P w) 8 fKp ["b", "a"] (spKeep K C CM CI ["b", "a"])
  k0 : FnKw P w K mg base (L2.CX P w) 8 fKp [] (spKeep K C CM CI [])
  kac : FnKw P w K mg base (L2.CX P w) 8 fKp ["a", "c"] (spKeep K C CM CI ["a", "c"])
structure KRs (K : PySem.W.Frag) (H : Hp) (m l : Addr) (n : Nat) (C pS : Addr) (xs : List V) (ys : List (Str × Int)) (pP pW : Addr) (olds : List Str) (x dx : Addr) (vM : V) : Prop where
  M : Mch H m l n
  so : SetOk ys
  na : ("a" : Str) ∈ ys.map (·.1)
  nb : ("b" : Str) ∈ ys.map (·.1)
  nc : ("c" : Str) ∉ ys.map (·.1)
  s : SqT K H pS xs
  sd : DqAll K H m l xs (prD ys)
  p : Dq K H m l (.ref pP) plcD
  wd : H pW = some (.tup (olds.map V.str))
  lw : olds.length = ys.length
  hw : ∀ z ∈ olds, z ∈ (["live", "met", "begin"] : List Str)
  x : H x = some (.ins C dx (reqF (.ref pS) (.ref pP) vM))
  vm : Dq K H m l vM (.tuple (olds.map .str))
section
variable {K : PySem.W.Frag} {H H' : Hp} {m l : Addr} {n : Nat} {C CM CI pS : Addr} {xs : List V} {ys : List (Str × Int)} {pP pW : Addr} {olds : List Str} {x dx : Addr} {vM : V}
theorem KRs.ext (e : ExtN H H') (T : KRs K H m l n C pS xs ys pP pW olds x dx vM) : KRs K H' m l n C pS xs ys pP pW olds x dx vM :=
  ⟨Mch.ext e T.M, T.so, T.na, T.nb, T.nc, ExtN.seqT e T.s, DqAll.ext e T.sd, Dq.ext e T.p, e _ _ T.wd (fun _ z => nomatch z), T.lw, T.hw, e _ _ T.x (fun _ z => nomatch z), Dq.ext e T.vm⟩
theorem strs_dq {K : PySem.W.Frag} {H : Hp} {m l : Addr} : ∀ zs : List Str, DqAll K H m l (zs.map V.str) (zs.map PyData.str)
  | [] => .nil
  | z :: zs => .cons (.str z) (strs_dq zs)
/-- other modes, by names -/
theorem KRs.keep {d : Addr} {ks : List Str} {zs : List V} {es : List PyData} {Qc : VK} {Ec : XK} (T : KRs K H m l n C pS xs ys pP pW olds x dx vM) (hd : H d = none) (dz : DqAll K H m l zs es) (lz : zs.length = ks.length) (lk : ks.length ≤ 900)
    (qI : ∀ z, firstNo (ys.map (·.1)) ks = some z → ∀ e H', H e = none → Same H H' → H' e = some (.xd [("name", .str z)]) → Ec (.ref CI) (some e) H')
    (q : firstNo (ys.map (·.1)) ks = none → (∀ z, firstOdd ks es = some z → ∀ e H', H e = none → Same H H' → H' e = some (.xd [("place", .str z)]) → Ec (.ref CM) (some e) H') ∧
      (firstOdd ks es = none → ∀ x' dx' v3 H', Same H H' → H x' = none → H' x' = some (.ins C dx' (reqF (.ref pS) (.ref pP) v3)) → Dq K H' m l v3 (.tuple (keptD ks es (ys.map (·.1)) olds)) → Qc (.ref x') H')) :
    spKeep K C CM CI ks [.ref x, .ref d] (upd H d (.dK (kwD ks zs))) Qc Ec :=
  ⟨H, m, l, x, dx, d, pS, xs, ys, .ref pP, vM, plcD, olds, zs, es, rfl, hd, Same.upd hd, upd_same, T.x, T.so, T.s, T.sd, T.p, plc_good, plc_no T.so, T.vm, T.lw, T.hw, dz, lz, lk, qI, q⟩
theorem no_a (T : KRs K H m l n C pS xs ys pP pW olds x dx vM) : firstNo (ys.map (·.1)) ["a"] = none := by
  unfold firstNo
  simp only [List.find?_cons, decide_eq_true T.na, Bool.not_true, List.find?_nil]
theorem no_ba (T : KRs K H m l n C pS xs ys pP pW olds x dx vM) : firstNo (ys.map (·.1)) ["b", "a"] = none := by
  unfold firstNo
  simp only [List.find?_cons, decide_eq_true T.na, decide_eq_true T.nb, Bool.not_true, List.find?_nil]
theorem no_ac (T : KRs K H m l n C pS xs ys pP pW olds x dx vM) : firstNo (ys.map (·.1)) ["a", "c"] = some ("c" : Str) := by
  unfold firstNo
  simp only [List.find?_cons, decide_eq_true T.na, decide_eq_false T.nc, Bool.not_true, Bool.not_false]
end
/-- == of a thing with itself -/
theorem eq_self {K : PySem.W.Frag} {H : Hp} {m l : Addr} {v u : V} {d : PyData} {B a b : Nat} {Q : VK} (h1 : Dq K H m l v d) (h2 : Dq K H m l u d) (g : Gd B a b d) (n : noDi d = true) (hb : b ≤ 60) (q : Q (.bl true) H) : rEqD K v u H Q :=
  ⟨d, d, h1.dp d v n, h2.dp d u n, shaped_of g n hb, shaped_of g n hb, by rw [SeqAt.eqv_refl d (lay_of d g.ok n)]; exact q⟩
theorem pair_good {a b : Str} (h1 : sOk 16 a) (h2 : sOk 16 b) : Gd big 1000 1 (.tuple [.str a, .str b]) := by
  have g1 : Gd big 16 0 (.str a) := Gd.str h1
  have g2 : Gd big 16 0 (.str b) := Gd.str h2
  exact (Gd.tup ((Gl'.one g1).app (Gl'.one g2))).mono (Nat.le_refl _) (by decide) (Nat.le_refl _)
section
variable {P : Program} {w : World} {K : PySem.W.Frag} {mg : Str → Option Value} {base : Heap} {C CM CI fKp fTo f c Pk Pl : Addr} {fdTo : FuncData} {A : Around} {outer : List Env} {s : Shared} {H0 : Hp} {Eb : XK}
theorem kr_last (G : G6 mg fTo C CM CI) (X6 : C6 K C CM CI fKp) (KP : Kps P w K mg base C CM CI fKp) (FT : Fun K "_law_told" "_law_told" sTold fTo fdTo) (bT : Binds K fdTo ["call"] []) (TB : TabB base mg c Pk) (nP : Pk ≠ Pl)
    (hr : Room 11 (A.deeper (envOfC "_law_kept_right" (defScope sKept) s.heap.objs.size f (.ref c)))) :
    ∃ t, PSs (cxOf CX0 P w K mg base NK "_law_kept_right" (defScope sKept) f (.ref c) A outer s H0 Eb) ((defBody sKept).drop 9) t ∧ ∀ (D : Ends) (H1 : Hp) (m l : Addr) (n : Nat) (pS : Addr) (xs : List V) (ys : List (Str × Int)) (pP pW : Addr) (olds : List Str) (x dx : Addr) (vM : V) (v5 v6 v7 v8 v9 v10 v11 v12 : Option V),
      KRs K H1 m l n C pS xs ys pP pW olds x dx vM → Tabs (tabsK Pk Pl) H1 → (∀ H2, ExtN H1 H2 → Tabs (tabsK Pk Pl) H2 → D.rt (.bl true) H2) →
      t D [some (.ref m), some (.ref pS), some (.ref pP), some (.ref pW), some (.ref x), v5, v6, v7, v8, v9, v10, v11, v12] H1 := by
  obtain ⟨oc, od, kV, doc, pm, an, cdv, ct, osl, efd, lk, hcd⟩ := FT.ex
  subst efd
  have hr10 : Room 10 (A.deeper (envOfC "_law_kept_right" (defScope sKept) s.heap.objs.size f (.ref c))) := hr.mono (by decide)
  have hu : ∀ p ∈ tabsK Pk Pl, p.1 = Pk → p.2 = kQ := fun p hp e => by
    rcases List.mem_cons.mp hp with rfl | hp
    · rfl
    · rw [List.mem_singleton.mp hp] at e
      exact absurd e.symm nP
  refine ⟨_, pss_cons (ps_set (i := 9) scK.nd rfl (by first | exact Or.inl rfl | exact Or.inr rfl) (pe_lst (pa_cons
      (pe_lamcall (T := tabsK Pk Pl) (TT := TT6 K C CM CI) (c := c) (P := Pk) (k := 8) (t := fun E => tMethKw C "keeping" ["a", "c"] (spKeep K C CM CI ["a", "c"]) E (tVar 4) (tCons (tC (.str "so")) (tCons (tC (.str "so")) tNil))) (by rfl) G.told FT.kp lk hcd bT scTo rfl (Or.inl rfl)
        (told_req X6.RC G.bm G.mi X6.MM X6.IM X6.II X6.RM X6.RI) TB rfl (List.mem_cons_self ..) hu hr10 (lamS_by (sc := defScope sKept) (by decide +kernel)) rfl (fun _ _ _ _ _ => rfl)
        (fun A outer s H E f c' hr3 => pe_methkw (pv 4) X6.RC.cl X6.mt KP.kac hr3 (passes_call (takes_of rfl rfl rfl rfl) fun _ _ _ _ h => h) (pk_cons pe_str (pk_cons pe_str pk_nil))))
      (pa_cons (pe_ldcall (T := tabsK Pk Pl) (TT := TT6 K C CM CI) (c := c) (P := Pk) (k := 8) (x0 := "x") (v0 := .int 0) (t := fun E => tMethKw C "keeping" ["b", "a"] (spKeep K C CM CI ["b", "a"]) E (tVar 4) (tCons (tC (.int 5)) (tCons (tC (.str "never")) tNil))) (by rfl) G.told FT.kp lk hcd bT scTo rfl (Or.inl rfl)
        (told_req X6.RC G.bm G.mi X6.MM X6.IM X6.II X6.RM X6.RI) TB rfl (List.mem_cons_self ..) hu hr10 (ldS_by (N := NK) (sc := defScope sKept) (by decide +kernel)) rfl rfl pe_int rfl (fun _ _ _ _ _ _ _ => ⟨_, rfl, rfl⟩)
        (fun A outer s H E f c' hr3 => pe_methkw (pv 4) X6.RC.cl X6.mt KP.kba hr3 (passes_call (takes_of rfl rfl rfl rfl) fun _ _ _ _ h => h) (pk_cons pe_int (pk_cons pe_str pk_nil)))) pa_nil))))
    (pss_one (ps_ret (pe_and (pe_cmpR (show OpR _ (compareOp .Eq) (rEqD K) from op_eqD (by exact hr.units)) (pv 9) (pe_lst (pa_cons (pe_tup (pa_cons pe_str (pa_cons pe_str pa_nil))) (pa_cons (pe_tup (pa_cons pe_str (pa_cons pe_str pa_nil))) pa_nil))) (by rfl))
      (pe_one (pe_cmpR (show OpR _ (compareOp .Eq) (rEqD K) from op_eqD (by exact hr.units))
        (pe_lamcall (T := tabsK Pk Pl) (TT := TT6 K C CM CI) (c := c) (P := Pk) (k := 8) (t := fun E => tMethKw C "keeping" ["a"] (spKeep K C CM CI ["a"]) E (tVar 4) (tCons (tC .non) tNil)) (by rfl) G.told FT.kp lk hcd bT scTo rfl (Or.inl rfl)
          (told_req X6.RC G.bm G.mi X6.MM X6.IM X6.II X6.RM X6.RI) TB rfl (List.mem_cons_self ..) hu hr10 (lamS_by (sc := defScope sKept) (by decide +kernel)) rfl (fun _ _ _ _ _ => rfl)
          (fun A outer s H E f c' hr3 => pe_methkw (pv 4) X6.RC.cl X6.mt KP.ka hr3 (passes_call (takes_of rfl rfl rfl rfl) fun _ _ _ _ h => h) (pk_cons pe_non pk_nil)))
        (pe_tup (pa_cons pe_str (pa_cons pe_str pa_nil))) (by rfl)))))), ?_⟩
  intro D H1 m l n pS xs ys pP pW olds x dx vM v5 v6 v7 v8 v9 v10 v11 v12 T tb q
  -- a key that is no name
  refine ⟨tb, fun H2 e2 t2 H3 Ec Qc s3 hM hI hQ => ?_⟩
  have e3 : ExtN H1 H3 := e2.trans (Same.toN s3)
  have t3 := Tabs.same t2 s3
  have T3 := T.ext e3
  refine ⟨_, rfl, x, dx, _, rfl, T3.x, rfl, rfl, fun d hd => ?_⟩
  refine T3.keep hd (.cons (.str _) (.cons (.str _) .nil)) rfl (by decide) (fun z hz e H4 h1 h2 h3 => ?_) (fun hn => by rw [no_ac T3] at hn; cases hn)
  obtain rfl : z = ("c" : Str) := by rw [no_ac T3] at hz; exact (Option.some.inj hz).symm
  refine hI e _ H4 h3 fun p1 hp1 => ?_
  have g5 : (upd H4 p1 (.tup [.str "missing", .str "c"])) p1 = some (.tup [.str "missing", .str "c"]) := upd_same
  have s5 : Same H3 (upd H4 p1 (.tup [.str "missing", .str "c"])) := h2.trans (Same.upd hp1)
  generalize upd H4 p1 (.tup [.str "missing", .str "c"]) = H5 at g5 s5 ⊢
  have e5 := e3.trans (Same.toN s5)
  have t5 := Tabs.same t3 s5
  clear hM hI hQ
  -- a value that is no mode
  refine ⟨t5, fun H6 e6 t6 H7 Ec2 Qc2 s7 hM2 hI2 hQ2 => ?_⟩
  have e57 : ExtN H5 H7 := e6.trans (Same.toN s7)
  have e7 := e5.trans e57
  have t7 := Tabs.same t6 s7
  have T7 := T.ext e7
  have g7 := e57 _ _ g5 (fun _ z => nomatch z)
  refine ⟨_, rfl, x, dx, _, rfl, T7.x, rfl, rfl, fun d2 hd2 => ?_⟩
  refine T7.keep hd2 (.cons (.int _) (.cons (.str _) .nil)) rfl (by decide) (fun z hz => by rw [no_ba T7] at hz; cases hz) (fun _ => ⟨fun z hz e' H8 h1' h2' h3' => ?_, fun ho => ?_⟩)
  rotate_left
  · have eo : firstOdd ["b", "a"] [.int 5, .str "never"] = some ("b" : Str) := rfl
    rw [eo] at ho
    cases ho
  obtain rfl : z = ("b" : Str) := by
    have eo : firstOdd ["b", "a"] [.int 5, .str "never"] = some ("b" : Str) := rfl
    rw [eo] at hz
    exact (Option.some.inj hz).symm
  refine hM2 e' _ H8 h3' fun p2 hp2 => ?_
  have g9 : (upd H8 p2 (.tup [.str "modes", .str "b"])) p2 = some (.tup [.str "modes", .str "b"]) := upd_same
  have s9 : Same H7 (upd H8 p2 (.tup [.str "modes", .str "b"])) := h2'.trans (Same.upd hp2)
  generalize upd H8 p2 (.tup [.str "modes", .str "b"]) = H9 at g9 s9 ⊢
  have g9a := s9 _ _ g7
  have e9 := e7.trans (Same.toN s9)
  have t9 := Tabs.same t7 s9
  clear hM2 hI2 hQ2
  refine ⟨(by show 2 ≤ sizeLine; decide), fun pT hpT => ?_⟩
  have sT : Same H9 (upd H9 pT (.lst [.ref p1, .ref p2])) := Same.upd hpT
  have gT : (upd H9 pT (.lst [.ref p1, .ref p2])) pT = some (.lst [.ref p1, .ref p2]) := upd_same
  have nT := (T.ext e9).M.ne hpT
  generalize upd H9 pT (.lst [.ref p1, .ref p2]) = H10 at sT gT ⊢
  refine ⟨_, rfl, (by show 2 ≤ sizeLine; decide), fun p3 hp3 => ⟨(by show 2 ≤ sizeLine; decide), fun p4 hp4 => ⟨(by show 2 ≤ sizeLine; decide), fun p5 hp5 => ?_⟩⟩⟩
  have sA : Same H10 (upd H10 p3 (.tup [.str "missing", .str "c"])) := Same.upd hp3
  have sB : Same (upd H10 p3 (.tup [.str "missing", .str "c"])) (upd (upd H10 p3 (.tup [.str "missing", .str "c"])) p4 (.tup [.str "modes", .str "b"])) := Same.upd hp4
  have sC : Same (upd (upd H10 p3 (.tup [.str "missing", .str "c"])) p4 (.tup [.str "modes", .str "b"])) (upd (upd (upd H10 p3 (.tup [.str "missing", .str "c"])) p4 (.tup [.str "modes", .str "b"])) p5 (.lst [.ref p3, .ref p4])) := Same.upd hp5
  have q3 := (sB.trans sC) _ _ (upd_same (H := H10) (a := p3) (o := .tup [.str "missing", .str "c"]))
  have q4 := sC _ _ (upd_same (H := upd H10 p3 (.tup [.str "missing", .str "c"])) (a := p4) (o := .tup [.str "modes", .str "b"]))
  have q5 : (upd (upd (upd H10 p3 (.tup [.str "missing", .str "c"])) p4 (.tup [.str "modes", .str "b"])) p5 (.lst [.ref p3, .ref p4])) p5 = some (.lst [.ref p3, .ref p4]) := upd_same
  have s11 := (sA.trans sB).trans sC
  have n5 := ((((T.ext e9).M.same sT).same sA).same sB).ne hp5
  generalize upd (upd (upd H10 p3 (.tup [.str "missing", .str "c"])) p4 (.tup [.str "modes", .str "b"])) p5 (.lst [.ref p3, .ref p4]) = H11 at q3 q4 q5 s11 ⊢
  have s9b := sT.trans s11
  have gmc : Gd big 1000 1 (.tuple [.str "missing", .str "c"]) := pair_good ⟨by decide, by decide⟩ ⟨by decide, by decide⟩
  have gmb : Gd big 1000 1 (.tuple [.str "modes", .str "b"]) := pair_good ⟨by decide, by decide⟩ ⟨by decide, by decide⟩
  have gma : Gd big 1000 1 (.tuple [.str "modes", .str "a"]) := pair_good ⟨by decide, by decide⟩ ⟨by decide, by decide⟩
  have pr : ∀ {G : Hp} {p : Addr} {a b : Str}, G p = some (.tup [.str a, .str b]) → Dq K G m l (.ref p) (.tuple [.str a, .str b]) := fun {G p a b} h => .tup (.inl (.inl h)) (.cons (.str _) (.cons (.str _) .nil))
  refine eq_self (m := m) (l := l) (d := .list [.tuple [.str "missing", .str "c"], .tuple [.str "modes", .str "b"]]) (.lst (s11 _ _ gT) nT.1 nT.2 (.cons (pr (s9b _ _ g9a)) (.cons (pr (s9b _ _ g9)) .nil))) (.lst q5 n5.1 n5.2 (.cons (pr q3) (.cons (pr q4) .nil)))
    (Gd.lst ((Gl'.one gmc).app (Gl'.one gmb))) rfl (by decide) ⟨_, rfl, ifT rfl ?_⟩
  have e11 := e9.trans (Same.toN s9b)
  have t11 := Tabs.same t9 s9b
  -- None is no mode
  refine ⟨t11, fun H12 e12 t12 H13 Ec3 Qc3 s13 hM3 hI3 hQ3 => ?_⟩
  have e13 := e11.trans (e12.trans (Same.toN s13))
  have t13 := Tabs.same t12 s13
  have T13 := T.ext e13
  refine ⟨_, rfl, x, dx, _, rfl, T13.x, rfl, rfl, fun d3 hd3 => ?_⟩
  refine T13.keep hd3 (.cons .non .nil) rfl (by decide) (fun z hz => by rw [no_a T13] at hz; cases hz) (fun _ => ⟨fun z hz e3' H14 h1'' h2'' h3'' => ?_, fun ho => ?_⟩)
  rotate_left
  · have eo : firstOdd ["a"] [.none] = some ("a" : Str) := rfl
    rw [eo] at ho
    cases ho
  obtain rfl : z = ("a" : Str) := by
    have eo : firstOdd ["a"] [.none] = some ("a" : Str) := rfl
    rw [eo] at hz
    exact (Option.some.inj hz).symm
  refine hM3 e3' _ H14 h3'' fun p6 hp6 => ⟨(by show 2 ≤ sizeLine; decide), fun p7 hp7 => ?_⟩
  have s15 : Same H14 (upd H14 p6 (.tup [.str "modes", .str "a"])) := Same.upd hp6
  have s16 : Same (upd H14 p6 (.tup [.str "modes", .str "a"])) (upd (upd H14 p6 (.tup [.str "modes", .str "a"])) p7 (.tup [.str "modes", .str "a"])) := Same.upd hp7
  exact eq_self (m := m) (l := l) (pr (s16 _ _ upd_same)) (pr upd_same) gma rfl (by decide) (q _ (e13.trans (Same.toN ((h2''.trans s15).trans s16))) (Tabs.same t13 ((h2''.trans s15).trans s16)))
end
end Ms
namespace Ms
open PySem PySem.Spec PyProof.Rows L2 LamX StX
/-! ### _law_kept_right: modes exchanged by names -/
def dueL (names olds : List Str) (k w : Str) : List Str := (names.zip olds).map fun p => if decide (p.1 = k) = true then w else p.2
theorem due_len {names olds : List Str} {k w : Str} (h : names.length = olds.length) : (dueL names olds k w).length = olds.length := by
  unfold dueL
  rw [List.length_map, List.length_zip]; omega
theorem due_mem {names olds : List Str} {k w : Str} (hw : w ∈ (["live", "met", "begin"] : List Str)) (ho : ∀ z ∈ olds, z ∈ (["live", "met", "begin"] : List Str)) : ∀ z ∈ dueL names olds k w, z ∈ (["live", "met", "begin"] : List Str) := fun z hz => by
  obtain ⟨p, hp, rfl⟩ := List.mem_map.mp hz
  show (if decide (p.1 = k) = true then w else p.2) ∈ _
  split
  · exact hw
  · exact ho _ (List.of_mem_zip hp).2
theorem kept_a (w : Str) (names olds : List Str) : keptD ["a"] [.str w] names olds = (dueL names olds "a" w).map .str := by
  unfold keptD dueL
  rw [List.map_map]
  refine List.map_congr_left fun p _ => ?_
  by_cases h : p.1 = ("a" : Str)
  · have e : kLook ["a"] [.str w] p.1 = some (.str w) := by
      unfold kLook
      simp [List.find?_cons, h]
    rw [e]
    simp [h]
  · have e : kLook ["a"] [.str w] p.1 = none := by
      unfold kLook
      simp [List.find?_cons, Ne.symm h]
    rw [e]
    simp [h]
theorem kept_ba (w : Str) : ∀ names olds : List Str, keptD ["b", "a"] [.str "met", .str w] names olds = (dueL names (dueL names olds "a" w) "b" "met").map .str
  | [], _ => by simp [keptD, dueL]
  | _ :: _, [] => by simp [keptD, dueL]
  | n :: names, o :: olds => by
    have ih := kept_ba w names olds
    have e1 : keptD ["b", "a"] [.str "met", .str w] (n :: names) (o :: olds) = (kLook ["b", "a"] [.str "met", .str w] n).getD (.str o) :: keptD ["b", "a"] [.str "met", .str w] names olds := rfl
    have e2 : dueL (n :: names) (o :: olds) "a" w = (if decide (n = ("a" : Str)) = true then w else o) :: dueL names olds "a" w := rfl
    rw [e1, e2, ih]
    have e3 : ∀ (q : Str) (qs : List Str), dueL (n :: names) (q :: qs) "b" "met" = (if decide (n = ("b" : Str)) = true then ("met" : Str) else q) :: dueL names qs "b" "met" := fun _ _ => rfl
    rw [e3, List.map_cons]
    congr 1
    by_cases hb : n = ("b" : Str)
    · have e : kLook ["b", "a"] [.str "met", .str w] n = some (.str "met") := by
        unfold kLook
        simp [List.find?_cons, hb]
      rw [e]
      simp [hb]
    · by_cases ha : n = ("a" : Str)
      · have ab : ¬ ("b" : Str) = ("a" : Str) := by decide
        have e : kLook ["b", "a"] [.str "met", .str w] n = some (.str w) := by
          unfold kLook
          rw [ha, List.zip_cons_cons, List.find?_cons, decide_eq_false ab, List.zip_cons_cons, List.find?_cons, decide_eq_true rfl]
          rfl
        rw [e, decide_eq_false hb, decide_eq_true ha]
        rfl
      · have e : kLook ["b", "a"] [.str "met", .str w] n = none := by
          unfold kLook
          simp [List.find?_cons, Ne.symm hb, Ne.symm ha]
        rw [e]
        simp [hb, ha]
theorem kept_0 : ∀ names olds : List Str, names.length = olds.length → keptD [] [] names olds = olds.map .str
  | [], [], _ => rfl
  | [], _ :: _, h => by simp at h
  | _ :: _, [], h => by simp at h
  | n :: names, o :: olds, h => by
    have e1 : keptD [] [] (n :: names) (o :: olds) = .str o :: keptD [] [] names olds := rfl
    rw [e1, kept_0 names olds (by simpa using h)]; rfl
theorem mode_is {w : Str} (h : w ∈ (["live", "met", "begin"] : List Str)) : isMode (.str w) = true := decide_eq_true h
theorem odd_a {w : Str} (h : w ∈ (["live", "met", "begin"] : List Str)) : firstOdd ["a"] [.str w] = none := by
  unfold firstOdd
  simp [List.find?_cons, mode_is h]
theorem odd_ba {w : Str} (h : w ∈ (["live", "met", "begin"] : List Str)) : firstOdd ["b", "a"] [.str "met", .str w] = none := by
  unfold firstOdd
  simp [List.find?_cons, mode_is h, mode_is (show ("met" : Str) ∈ (["live", "met", "begin"] : List Str) by decide)]
theorem words_goodK {zs : List Str} (lz : zs.length ≤ 3) (hz : ∀ z ∈ zs, z ∈ (["live", "met", "begin"] : List Str)) : Gd big 60 1 (.tuple (zs.map .str)) := by
  have key : ∀ zs : List Str, (∀ z ∈ zs, z ∈ (["live", "met", "begin"] : List Str)) → Gl' big (17 * zs.length) 0 (zs.map PyData.str) := by
    intro zs
    induction zs with
    | nil => exact fun _ => ⟨(fun d h => nomatch h), Nat.le_refl _, (fun d h => nomatch h)⟩
    | cons z zs ih =>
      intro h
      have g1 : Gd big 16 0 (.str z) := by
        have := h z (List.mem_cons_self ..)
        simp only [List.mem_cons, List.mem_nil_iff, or_false] at this
        rcases this with rfl | rfl | rfl <;> exact Gd.str ⟨by decide, by decide⟩
      exact ((Gl'.one g1).app (ih fun x hx => h x (List.mem_cons_of_mem _ hx))).mono (Nat.le_refl _) (by simp only [List.length_cons]; omega) (Nat.le_refl _)
  exact (Gd.tup (key zs hz)).mono (Nat.le_refl _) (by omega) (Nat.le_refl _)
theorem strs_noDiK (w : List Str) : noDi (.tuple (w.map PyData.str)) = true := noDi_all fun x hx => by
  obtain ⟨y, _, rfl⟩ := List.mem_map.mp hx
  rfl
theorem prs_noDiK (qs : List (Str × Int)) : noDi (.tuple (prD qs)) = true := by
  show noDiAll (prD qs) = true
  refine noDi_all fun x hx => ?_
  induction qs with
  | nil => cases hx
  | cons q qs ih =>
    have hx' : x ∈ PyData.tuple [.str q.1, .int q.2] :: prD qs := hx
    rcases List.mem_cons.mp hx' with rfl | h
    · rfl
    · exact ih h
section
variable {K : PySem.W.Frag} {H : Hp} {m l : Addr} {n : Nat} {C pS : Addr} {xs : List V} {ys : List (Str × Int)} {pP pW : Addr} {olds : List Str} {x dx : Addr} {vM : V}
/-- what is told of the request and what is due are the same -/
theorem KRs.ne3 {p p2 : Addr} {v3 vW : V} {us : List Str} {Q : VK} (T : KRs K H m l n C pS xs ys pP pW olds x dx vM) (hp : H p = none) (hp2 : (upd H p (.lst [v3, .ref pP, .ref pS])) p2 = none) (h3 : Dq K H m l v3 (.tuple (us.map .str))) (hW : Dq K H m l vW (.tuple (us.map .str)))
    (lu : us.length ≤ 3) (mu : ∀ z ∈ us, z ∈ (["live", "met", "begin"] : List Str)) (q : Q (.bl false) (upd (upd H p (.lst [v3, .ref pP, .ref pS])) p2 (.lst [vW, .ref pP, .ref pS]))) :
    rNeD K (.ref p) (.ref p2) (upd (upd H p (.lst [v3, .ref pP, .ref pS])) p2 (.lst [vW, .ref pP, .ref pS])) Q := by
  have s1 : Same H (upd H p (.lst [v3, .ref pP, .ref pS])) := Same.upd hp
  have s2 : Same (upd H p (.lst [v3, .ref pP, .ref pS])) (upd (upd H p (.lst [v3, .ref pP, .ref pS])) p2 (.lst [vW, .ref pP, .ref pS])) := Same.upd hp2
  have s := s1.trans s2
  have n1 := T.M.ne hp
  have n2 := (T.M.same s1).ne hp2
  have g1 : Gd (10 ^ 31) 100000 3 (.tuple (us.map .str)) := (words_goodK lu mu).mono (by decide) (by decide) (by decide)
  have g2 : Gd (10 ^ 31) 100000 3 plcD := plc_good.mono (by decide) (Nat.le_refl _) (Nat.le_refl _)
  have g3 : Gd (10 ^ 31) 100000 3 (.tuple (prD ys)) := (spots_goodK T.so).mono (Nat.le_refl _) (by decide) (by decide)
  have dS := Dq.same s _ _ (Dq.tup T.s T.sd)
  have dP := Dq.same s _ _ T.p
  refine ne_self (m := m) (l := l) (d := .list [.tuple (us.map .str), plcD, .tuple (prD ys)]) (.lst (s2 _ _ upd_same) n1.1 n1.2 (.cons (Dq.same s _ _ h3) (.cons dP (.cons dS .nil)))) (.lst upd_same n2.1 n2.2 (.cons (Dq.same s _ _ hW) (.cons dP (.cons dS .nil))))
    (Gd.lst ((Gl'.one g1).app ((Gl'.one g2).app (Gl'.one g3)))) ?_ (by decide) q
  show noDiAll [PyData.tuple (us.map .str), plcD, .tuple (prD ys)] = true
  simp only [noDiAll, strs_noDiK, prs_noDiK, Bool.and_true, Bool.true_and]
  rfl
end
section
variable {P : Program} {w : World} {K : PySem.W.Frag} {mg : Str → Option Value} {base : Heap} {C CM CI fKp fTo f c Pk Pl : Addr} {fdTo : FuncData} {A : Around} {outer : List Env} {s : Shared} {H0 : Hp} {Eb : XK}
theorem kr_none {tT : TS} (G : G6 mg fTo C CM CI) (X6 : C6 K C CM CI fKp) (KP : Kps P w K mg base C CM CI fKp) (FT : Fun K "_law_told" "_law_told" sTold fTo fdTo) (bT : Binds K fdTo ["call"] []) (TB : TabB base mg c Pk) (nP : Pk ≠ Pl)
    (hr : Room 11 (A.deeper (envOfC "_law_kept_right" (defScope sKept) s.heap.objs.size f (.ref c))))
    (dT : PSs (cxOf CX0 P w K mg base NK "_law_kept_right" (defScope sKept) f (.ref c) A outer s H0 Eb) ((defBody sKept).drop 9) tT)
    (zT : ∀ (D : Ends) (H1 : Hp) (m l : Addr) (n : Nat) (pS : Addr) (xs : List V) (ys : List (Str × Int)) (pP pW : Addr) (olds : List Str) (x dx : Addr) (vM : V) (v5 v6 v7 v8 v9 v10 v11 v12 : Option V),
      KRs K H1 m l n C pS xs ys pP pW olds x dx vM → Tabs (tabsK Pk Pl) H1 → (∀ H2, ExtN H1 H2 → Tabs (tabsK Pk Pl) H2 → D.rt (.bl true) H2) →
      tT D [some (.ref m), some (.ref pS), some (.ref pP), some (.ref pW), some (.ref x), v5, v6, v7, v8, v9, v10, v11, v12] H1) :
    ∃ t, PSs (cxOf CX0 P w K mg base NK "_law_kept_right" (defScope sKept) f (.ref c) A outer s H0 Eb) ((defBody sKept).drop 8) t ∧ ∀ (D : Ends) (H1 : Hp) (m l : Addr) (n : Nat) (pS : Addr) (xs : List V) (ys : List (Str × Int)) (pP pW : Addr) (olds : List Str) (x dx : Addr) (vM : V) (v5 v6 v7 v8 v9 v10 v11 v12 : Option V),
      KRs K H1 m l n C pS xs ys pP pW olds x dx vM → Tabs (tabsK Pk Pl) H1 → (∀ H2, ExtN H1 H2 → Tabs (tabsK Pk Pl) H2 → D.rt (.bl true) H2) →
      t D [some (.ref m), some (.ref pS), some (.ref pP), some (.ref pW), some (.ref x), v5, v6, v7, v8, v9, v10, v11, v12] H1 := by
  obtain ⟨oc, od, kV, doc, pm, an, cdv, ct, osl, efd, lk, hcd⟩ := FT.ex
  subst efd
  have hr10 : Room 10 (A.deeper (envOfC "_law_kept_right" (defScope sKept) s.heap.objs.size f (.ref c))) := hr.mono (by decide)
  have hu : ∀ p ∈ tabsK Pk Pl, p.1 = Pk → p.2 = kQ := fun p hp e => by
    rcases List.mem_cons.mp hp with rfl | hp
    · rfl
    · rw [List.mem_singleton.mp hp] at e
      exact absurd e.symm nP
  refine ⟨_, pss_cons (ps_if (PW.pt (pw_or (pt_cmpR (show OpR _ (compareOp .NotEq) (rNeD K) from op_neD (by exact hr.units))
      (pe_lamcall (T := tabsK Pk Pl) (TT := TT6 K C CM CI) (c := c) (P := Pk) (k := 8) (t := fun E => tMethKw C "keeping" [] (spKeep K C CM CI []) E (tVar 4) tNil) (by rfl) G.told FT.kp lk hcd bT scTo rfl (Or.inl rfl)
        (told_req X6.RC G.bm G.mi X6.MM X6.IM X6.II X6.RM X6.RI) TB rfl (List.mem_cons_self ..) hu hr10 (lamS_by (sc := defScope sKept) (by decide +kernel)) rfl (fun _ _ _ _ _ => rfl)
        (fun A outer s H E f c' hr3 => pe_methkw (pv 4) X6.RC.cl X6.mt KP.k0 hr3 (passes_call (takes_of rfl rfl rfl rfl) fun _ _ _ _ h => h) pk_nil))
      (pe_lst (pa_cons (pv 3) (pa_cons (pv 2) (pa_cons (pv 1) pa_nil)))) (nomark _))
      (pw_or1 (pt_cmpR (show OpR _ (compareOp .NotEq) (rNeD K) from op_neD (by exact hr.units)) (pe_fld (pv 4) rfl) (pv 3) (nomark _))))) (pss_one (ps_ret pe_bl)) pss_nil) dT, ?_⟩
  intro D H1 m l n pS xs ys pP pW olds x dx vM v5 v6 v7 v8 v9 v10 v11 v12 T tb q
  have l3 := T.so.len3
  refine ⟨tb, fun H2 e2 t2 H3 Ec Qc s3 hM hI hQ => ?_⟩
  have e3 : ExtN H1 H3 := e2.trans (Same.toN s3)
  have t3 := Tabs.same t2 s3
  have T3 := T.ext e3
  refine ⟨_, rfl, x, dx, _, rfl, T3.x, rfl, rfl, fun d hd => ?_⟩
  refine T3.keep (ks := []) (zs := []) (es := []) hd .nil rfl (by decide) (fun z hz => by cases hz) (fun _ => ⟨(fun z hz => by cases hz), fun _ x' dx' v3 H4 s4 hx' gx' d3 => ?_⟩)
  rw [kept_0 _ _ (by rw [List.length_map, T.lw])] at d3
  refine hQ x' dx' _ _ _ H4 gx' fun p hp => ⟨_, rfl, _, rfl, _, rfl, (by show 3 ≤ sizeLine; decide), fun p2 hp2 => ?_⟩
  have T4 := T3.ext (Same.toN s4)
  have hW : Dq K H4 m l (.ref pW) (.tuple (olds.map .str)) := .tup (.inl (.inl T4.wd)) (strs_dq olds)
  refine T4.ne3 hp hp2 d3 hW (by rw [T.lw]; exact l3) T.hw ⟨_, rfl, ifF rfl ?_⟩
  have s5 : Same H4 (upd (upd H4 p (.lst [v3, .ref pP, .ref pS])) p2 (.lst [.ref pW, .ref pP, .ref pS])) := (Same.upd hp).trans (Same.upd hp2)
  generalize upd (upd H4 p (.lst [v3, .ref pP, .ref pS])) p2 (.lst [.ref pW, .ref pP, .ref pS]) = H5 at s5 ⊢
  have T5 := T4.ext (Same.toN s5)
  refine ⟨_, rfl, x, C, dx, _, _, rfl, T5.x, X6.RC.cl, X6.RC.nM, rfl, _, rfl, ?_⟩
  refine ne_self (m := m) (l := l) T5.vm (.tup (.inl (.inl T5.wd)) (strs_dq olds)) (words_goodK (by rw [T.lw]; exact l3) T.hw) (strs_noDiK _) (by decide) ⟨_, rfl, ifF rfl ?_⟩
  have e5 := e3.trans (Same.toN (s4.trans s5))
  exact zT D H5 m l n pS xs ys pP pW olds x dx vM v5 v6 v7 v8 v9 v10 v11 v12 T5 (Tabs.same t3 (s4.trans s5)) fun H6 e6 t6 => q H6 (e5.trans e6) t6
end
end Ms
namespace Ms
open PySem PySem.Spec PyProof.Rows L2 LamX StX
/-! ### _law_kept_right: what is due, by names -/
section
variable {P : Program} {w : World} {K : PySem.W.Frag} {mg : Str → Option Value} {base : Heap} {C CM CI fKp fTo f c Pk Pl : Addr} {fdTo : FuncData} {A : Around} {outer : List Env} {s : Shared} {H0 : Hp} {Eb : XK}
/-- the new words, one behind another -/
theorem words_lc {H1 : Hp} {D : Addr} {names olds : List Str} {pN pW : Addr} {k wd : Str} {te : TE} {σ : L2.St} {Q : Hp → Prop} (hσ : σ.length = 13) (gN : H1 pN = some (.lst (names.map V.str))) (gW : SqT K H1 pW (olds.map V.str)) (hl : names.length = olds.length) (l3 : olds.length ≤ 3) (hD : H1 D = none)
    (hte : ∀ (a b : Str) (σ2 : L2.St) (H2 : Hp) (R : VK), σ2[10]? = some (some (.str a)) → σ2[12]? = some (some (.str b)) → (∀ i, i ≠ 10 → i ≠ 12 → σ2[i]? = (wipe σ [10, 12])[i]?) → R (.str (if decide (a = k) = true then wd else b)) H2 → te σ2 H2 R)
    (q : ∀ H', Same H1 H' → H' D = some (.lst ((dueL names olds k wd).map V.str)) → Q H') :
    ∃ W : Nat → Nat → Hp → Prop, (∃ m, W 0 m (upd H1 D (.lst []))) ∧ ∀ i m H, W i m H →
      ((ItZM K pN pW).stop i H ∧ Q H) ∨ ((ItZM K pN pW).go i H ∧ ∃ Nx : Hp → Prop, (∀ H', Nx H' → ∃ m', m' < m ∧ W (i + 1) m' H') ∧ ∀ x H', (ItZM K pN pW).yld i H x H' → gTup K 2 (gCons (gName 10) (gCons (gName 12) gNil)) x (wipe σ [10, 12]) H' fun σ2 H2 => wipe σ2 [10, 12] = wipe σ [10, 12] ∧ tYes σ2 H2 fun b H3 =>
        if b = true then te σ2 H3 fun y H4 => ∃ acc, H4 D = some (.lst acc) ∧ acc.length < sizeLine ∧ Nx (upd H4 D (.lst (acc ++ [y]))) else Nx H3) := by
  obtain ⟨b0, b1, b2, b3, b4, b5, b6, b7, b8, b9, b10, b11, b12, rfl⟩ : ∃ b0 b1 b2 b3 b4 b5 b6 b7 b8 b9 b10 b11 b12, σ = [b0, b1, b2, b3, b4, b5, b6, b7, b8, b9, b10, b11, b12] := by
    match σ, hσ with
    | [b0, b1, b2, b3, b4, b5, b6, b7, b8, b9, b10, b11, b12], _ => exact ⟨_, _, _, _, _, _, _, _, _, _, _, _, _, rfl⟩
  refine lc_it (walk_zm (xs := names.map V.str) (ys := olds.map V.str) (n := olds.length) (by rw [List.length_map, List.length_map, hl]; simp)) (fun i H5 => Same H1 H5 ∧ H5 D = some (.lst (((dueL names olds k wd).take i).map V.str)))
    ⟨Same.upd hD, by rw [upd_same]; rfl⟩ (fun i H5 _ ⟨s5, _⟩ => ⟨SqL.of (s5 _ _ gN), Same.seqT s5 gW⟩) ?_ ?_
  · rintro i x1 H5 H6 hi ⟨s5, gD⟩ ⟨TT, x1, x2, rfl, hT, rfl, e1, e2⟩
    have hi1 : i < names.length := by omega
    have ex1 : x1 = .str (names[i]) := by
      have e1 : (names.map V.str)[i]? = some x1 := e1
      rw [List.getElem?_map, List.getElem?_eq_getElem hi1] at e1
      exact (Option.some.inj e1).symm
    have ex2 : x2 = .str (olds[i]) := by
      have e2 : (olds.map V.str)[i]? = some x2 := e2
      rw [List.getElem?_map, List.getElem?_eq_getElem hi] at e2
      exact (Option.some.inj e2).symm
    have hk0 : (dueL names olds k wd)[i]? = some (if decide (names[i] = k) = true then wd else olds[i]) := by
      have ez : (names.zip olds)[i]? = some (names[i], olds[i]) := by
        rw [List.getElem?_zip_eq_some]
        exact ⟨List.getElem?_eq_getElem hi1, List.getElem?_eq_getElem hi⟩
      unfold dueL
      rw [List.getElem?_map, ez]; rfl
    subst ex1 ex2
    have sT : Same H5 (upd H5 TT (.tup [.str names[i], .str olds[i]])) := Same.upd hT
    have gD6 := sT _ _ gD
    refine ⟨TT, _, rfl, .inl (.inl upd_same), rfl, _, _, rfl, _, _, rfl, rfl, rfl, tyes ?_⟩
    refine hte names[i] olds[i] _ _ _ rfl rfl (fun j h1 h2 => ?_) ?_
    · match j, h1, h2 with
      | 0, _, _ => rfl
      | 1, _, _ => rfl
      | 2, _, _ => rfl
      | 3, _, _ => rfl
      | 4, _, _ => rfl
      | 5, _, _ => rfl
      | 6, _, _ => rfl
      | 7, _, _ => rfl
      | 8, _, _ => rfl
      | 9, _, _ => rfl
      | 10, h, _ => exact absurd rfl h
      | 11, _, _ => rfl
      | 12, _, h => exact absurd rfl h
      | j + 13, _, _ => rfl
    · refine ⟨_, gD6, small1000 (by rw [List.length_map, List.length_take]; have := due_len (k := k) (w := wd) hl; omega), fun b o hb => ?_, ?_⟩
      · rw [upd_ne (ne_of_none hb hD)]; exact sT _ _ (s5 _ _ hb)
      · rw [upd_same, List.take_succ, hk0, List.map_append]; rfl
  · rintro H5 ⟨s5, gD⟩
    rw [List.take_of_length_le (by rw [due_len hl]; exact Nat.le_refl _)] at gD
    exact q H5 s5 gD
theorem kr_both {tT : TS} (G : G6 mg fTo C CM CI) (X6 : C6 K C CM CI fKp) (KP : Kps P w K mg base C CM CI fKp) (htup : mg "tuple" = none) (hzip : mg "zip" = none) (FT : Fun K "_law_told" "_law_told" sTold fTo fdTo) (bT : Binds K fdTo ["call"] []) (TB : TabB base mg c Pk) (nP : Pk ≠ Pl)
    (hr : Room 11 (A.deeper (envOfC "_law_kept_right" (defScope sKept) s.heap.objs.size f (.ref c))))
    (dT : PSs (cxOf CX0 P w K mg base NK "_law_kept_right" (defScope sKept) f (.ref c) A outer s H0 Eb) ((defBody sKept).drop 8) tT)
    (zT : ∀ (D : Ends) (H1 : Hp) (m l : Addr) (n : Nat) (pS : Addr) (xs : List V) (ys : List (Str × Int)) (pP pW : Addr) (olds : List Str) (x dx : Addr) (vM : V) (v5 v6 v7 v8 v9 v10 v11 v12 : Option V),
      KRs K H1 m l n C pS xs ys pP pW olds x dx vM → Tabs (tabsK Pk Pl) H1 → (∀ H2, ExtN H1 H2 → Tabs (tabsK Pk Pl) H2 → D.rt (.bl true) H2) →
      tT D [some (.ref m), some (.ref pS), some (.ref pP), some (.ref pW), some (.ref x), v5, v6, v7, v8, v9, v10, v11, v12] H1) :
    ∃ t, PSs (cxOf CX0 P w K mg base NK "_law_kept_right" (defScope sKept) f (.ref c) A outer s H0 Eb) ((defBody sKept).drop 4) t ∧ ∀ (D : Ends) (H1 : Hp) (m l : Addr) (n : Nat) (pS : Addr) (xs : List V) (ys : List (Str × Int)) (pP pW : Addr) (olds : List Str) (x dx : Addr) (vM : V) (pN : Addr) (wd : Str) (v7 v8 v9 v10 v11 v12 : Option V),
      KRs K H1 m l n C pS xs ys pP pW olds x dx vM → H1 pN = some (.lst ((ys.map (·.1)).map V.str)) → wd ∈ (["live", "met", "begin"] : List Str) → Tabs (tabsK Pk Pl) H1 → (∀ H2, ExtN H1 H2 → Tabs (tabsK Pk Pl) H2 → D.rt (.bl true) H2) →
      t D [some (.ref m), some (.ref pS), some (.ref pP), some (.ref pW), some (.ref x), some (.ref pN), some (.str wd), v7, v8, v9, v10, v11, v12] H1 := by
  obtain ⟨oc, od, kV, doc, pm, an, cdv, ct, osl, efd, lk, hcd⟩ := FT.ex
  subst efd
  have hr10 : Room 10 (A.deeper (envOfC "_law_kept_right" (defScope sKept) s.heap.objs.size f (.ref c))) := hr.mono (by decide)
  have hu : ∀ p ∈ tabsK Pk Pl, p.1 = Pk → p.2 = kQ := fun p hp e => by
    rcases List.mem_cons.mp hp with rfl | hp
    · rfl
    · rw [List.mem_singleton.mp hp] at e
      exact absurd e.symm nP
  refine ⟨_, pss_cons (ps_set (i := 7) scK.nd rfl (by first | exact Or.inl rfl | exact Or.inr rfl) (pe_callTy call_tuple_of (by rfl) htup (by decide +kernel) (pa_cons (pe_lc (own := [("name", 10), ("old", 12)]) (g := gTup K 2 (gCons (gName 10) (gCons (gName 12) gNil))) (by rfl) scK.nd
        (pi_zm (by rfl) hzip (pa_cons (pv 5) (pa_cons (pv 3) pa_nil))) (blkOk_by (own := [("name", 10), ("old", 12)]) (N := NK) (sc := defScope sKept) (by decide +kernel))
        (fun _ _ _ _ _ => pg_tup rfl (pgs_cons (pg_name (i := 10) scK.nd rfl (Or.inl rfl)) (pgs_cons (pg_name (i := 12) scK.nd rfl (Or.inl rfl)) pgs_nil))) (fun _ _ _ _ _ => pts_nil)
        (fun _ _ _ _ _ => pe_ifExp (pt_cmpR op_eq (pv 10) pe_str (nomark _)) (pv 6) (pv 12))) pa_nil)))
    (pss_cons (ps_if (pt_cmpR (show OpR _ (compareOp .NotEq) (rNeD K) from op_neD (by exact hr.units))
      (pe_lamcall (T := tabsK Pk Pl) (TT := TT6 K C CM CI) (c := c) (P := Pk) (k := 8) (t := fun E => tMethKw C "keeping" ["a"] (spKeep K C CM CI ["a"]) E (tVar 4) (tCons (tVar 6) tNil)) (by rfl) G.told FT.kp lk hcd bT scTo rfl (Or.inl rfl)
        (told_req X6.RC G.bm G.mi X6.MM X6.IM X6.II X6.RM X6.RI) TB rfl (List.mem_cons_self ..) hu hr10 (lamS_by (sc := defScope sKept) (by decide +kernel)) rfl (fun _ _ _ _ _ => rfl)
        (fun A outer s H E f c' hr3 => pe_methkw (pv 4) X6.RC.cl X6.mt KP.ka hr3 (passes_call (takes_of rfl rfl rfl rfl) fun _ _ _ _ h => h) (pk_cons (pv 6) pk_nil)))
      (pe_lst (pa_cons (pv 7) (pa_cons (pv 2) (pa_cons (pv 1) pa_nil)))) (nomark _)) (pss_one (ps_ret pe_bl)) pss_nil)
    (pss_cons (ps_set (i := 8) scK.nd rfl (by first | exact Or.inl rfl | exact Or.inr rfl) (pe_callTy call_tuple_of (by rfl) htup (by decide +kernel) (pa_cons (pe_lc (own := [("name", 10), ("old", 12)]) (g := gTup K 2 (gCons (gName 10) (gCons (gName 12) gNil))) (by rfl) scK.nd
        (pi_zm (by rfl) hzip (pa_cons (pv 5) (pa_cons (pv 7) pa_nil))) (blkOk_by (own := [("name", 10), ("old", 12)]) (N := NK) (sc := defScope sKept) (by decide +kernel))
        (fun _ _ _ _ _ => pg_tup rfl (pgs_cons (pg_name (i := 10) scK.nd rfl (Or.inl rfl)) (pgs_cons (pg_name (i := 12) scK.nd rfl (Or.inl rfl)) pgs_nil))) (fun _ _ _ _ _ => pts_nil)
        (fun _ _ _ _ _ => pe_ifExp (pt_cmpR op_eq (pv 10) pe_str (nomark _)) pe_str (pv 12))) pa_nil)))
    (pss_cons (ps_if (pt_cmpR (show OpR _ (compareOp .NotEq) (rNeD K) from op_neD (by exact hr.units))
      (pe_lamcall (T := tabsK Pk Pl) (TT := TT6 K C CM CI) (c := c) (P := Pk) (k := 8) (t := fun E => tMethKw C "keeping" ["b", "a"] (spKeep K C CM CI ["b", "a"]) E (tVar 4) (tCons (tC (.str "met")) (tCons (tVar 6) tNil))) (by rfl) G.told FT.kp lk hcd bT scTo rfl (Or.inl rfl)
        (told_req X6.RC G.bm G.mi X6.MM X6.IM X6.II X6.RM X6.RI) TB rfl (List.mem_cons_self ..) hu hr10 (lamS_by (sc := defScope sKept) (by decide +kernel)) rfl (fun _ _ _ _ _ => rfl)
        (fun A outer s H E f c' hr3 => pe_methkw (pv 4) X6.RC.cl X6.mt KP.kba hr3 (passes_call (takes_of rfl rfl rfl rfl) fun _ _ _ _ h => h) (pk_cons pe_str (pk_cons (pv 6) pk_nil))))
      (pe_lst (pa_cons (pv 8) (pa_cons (pv 2) (pa_cons (pv 1) pa_nil)))) (nomark _)) (pss_one (ps_ret pe_bl)) pss_nil) dT))), ?_⟩
  intro D H1 m l n pS xs ys pP pW olds x dx vM pN wd v7 v8 v9 v10 v11 v12 T gN hwd tb q
  have l3 := T.so.len3
  have lo := T.lw
  have ln : (ys.map (·.1)).length = olds.length := by rw [List.length_map, lo]
  have metm : ("met" : Str) ∈ (["live", "met", "begin"] : List Str) := by decide
  refine ⟨_, rfl, _, rfl, pN, pW, _, _, rfl, SqL.of gN, .inl (.inl T.wd), fun D1 hD1 => ?_⟩
  refine words_lc (k := "a") (wd := wd) rfl gN (.inl (.inl T.wd)) ln (by omega) hD1 (fun a b σ2 H2 R h10 h12 hi hR => ?_) fun H2 s2 gD => ⟨D1, _, rfl, .inl ⟨SqL.of gD, fun p7 hp7 => ?_⟩⟩
  · refine ⟨_, h10, rfl, _, rfl, ?_⟩
    have ee : decide (V.str a = V.str "a") = decide (a = ("a" : Str)) := by
      rw [Bool.eq_iff_iff, decide_eq_true_eq, decide_eq_true_eq, V.str.injEq]
    rw [ee]
    by_cases ha : a = ("a" : Str)
    · rw [if_pos (decide_eq_true ha)] at hR
      exact ifT (decide_eq_true ha) ⟨.str wd, hi 6 (by decide) (by decide), hR⟩
    · rw [if_neg (by rw [decide_eq_false ha]; exact Bool.false_ne_true)] at hR
      exact ifF (decide_eq_false ha) ⟨.str b, h12, hR⟩
  have s3 : Same H2 (upd H2 p7 (.tup ((dueL (ys.map (·.1)) olds "a" wd).map V.str))) := Same.upd hp7
  have g7 : (upd H2 p7 (.tup ((dueL (ys.map (·.1)) olds "a" wd).map V.str))) p7 = some (.tup ((dueL (ys.map (·.1)) olds "a" wd).map V.str)) := upd_same
  have s13 := s2.trans s3
  generalize upd H2 p7 (.tup ((dueL (ys.map (·.1)) olds "a" wd).map V.str)) = H3 at s3 g7 s13 ⊢
  have t3 := Tabs.same tb s13
  have ld := due_len (k := "a") (w := wd) ln
  have md := due_mem (k := "a") hwd T.hw (names := ys.map (·.1))
  -- told with another mode of a
  refine ⟨t3, fun H4 e4 t4 H5 Ec Qc s5 hM hI hQ => ?_⟩
  have e35 : ExtN H3 H5 := e4.trans (Same.toN s5)
  have e5 : ExtN H1 H5 := (Same.toN s13).trans e35
  have t5 := Tabs.same t4 s5
  have T5 := T.ext e5
  refine ⟨_, rfl, x, dx, _, rfl, T5.x, rfl, _, rfl, rfl, fun d hd => ?_⟩
  refine T5.keep hd (.cons (.str _) .nil) rfl (by decide) (fun z hz => by rw [no_a T5] at hz; cases hz) (fun _ => ⟨(fun z hz => by rw [odd_a hwd] at hz; cases hz), fun _ x' dx' v3 H6 s6 hx' gx' d3 => ?_⟩)
  rw [kept_a] at d3
  refine hQ x' dx' _ _ _ H6 gx' fun p hp => ⟨_, rfl, _, rfl, _, rfl, (by show 3 ≤ sizeLine; decide), fun p2 hp2 => ?_⟩
  have T6 := T5.ext (Same.toN s6)
  have e36 := e35.trans (Same.toN s6)
  have g76 := e36 _ _ g7 (fun _ z => nomatch z)
  refine T6.ne3 hp hp2 d3 (.tup (.inl (.inl g76)) (strs_dq _)) (by rw [ld]; omega) md ⟨_, rfl, ifF rfl ?_⟩
  have s7 : Same H6 (upd (upd H6 p (.lst [v3, .ref pP, .ref pS])) p2 (.lst [.ref p7, .ref pP, .ref pS])) := (Same.upd hp).trans (Same.upd hp2)
  generalize upd (upd H6 p (.lst [v3, .ref pP, .ref pS])) p2 (.lst [.ref p7, .ref pP, .ref pS]) = H7 at s7 ⊢
  have e37 := e36.trans (Same.toN s7)
  have e7 := (Same.toN s13).trans e37
  have T7 := T.ext e7
  have t7 := Tabs.same t5 (s6.trans s7)
  have g77 := e37 _ _ g7 (fun _ z => nomatch z)
  have gN7 := e7 _ _ gN (fun _ z => nomatch z)
  clear hM hI hQ d3 gx' hx' hd
  -- both
  have ln2 : (ys.map (·.1)).length = (dueL (ys.map (·.1)) olds "a" wd).length := by rw [ld]; exact ln
  refine ⟨_, rfl, _, rfl, pN, p7, _, _, rfl, SqL.of gN7, .inl (.inl g77), fun D2 hD2 => ?_⟩
  refine words_lc (k := "b") (wd := "met") rfl gN7 (.inl (.inl g77)) ln2 (by omega) hD2 (fun a b σ2 H2 R h10 h12 hi hR => ?_) fun H8 s8 gD8 => ⟨D2, _, rfl, .inl ⟨SqL.of gD8, fun p8 hp8 => ?_⟩⟩
  · refine ⟨_, h10, rfl, _, rfl, ?_⟩
    have ee : decide (V.str a = V.str "b") = decide (a = ("b" : Str)) := by
      rw [Bool.eq_iff_iff, decide_eq_true_eq, decide_eq_true_eq, V.str.injEq]
    rw [ee]
    by_cases ha : a = ("b" : Str)
    · rw [if_pos (decide_eq_true ha)] at hR
      exact ifT (decide_eq_true ha) hR
    · rw [if_neg (by rw [decide_eq_false ha]; exact Bool.false_ne_true)] at hR
      exact ifF (decide_eq_false ha) ⟨.str b, h12, hR⟩
  have s9 : Same H8 (upd H8 p8 (.tup ((dueL (ys.map (·.1)) (dueL (ys.map (·.1)) olds "a" wd) "b" "met").map V.str))) := Same.upd hp8
  have g8 : (upd H8 p8 (.tup ((dueL (ys.map (·.1)) (dueL (ys.map (·.1)) olds "a" wd) "b" "met").map V.str))) p8 = some (.tup ((dueL (ys.map (·.1)) (dueL (ys.map (·.1)) olds "a" wd) "b" "met").map V.str)) := upd_same
  have s79 := s8.trans s9
  generalize upd H8 p8 (.tup ((dueL (ys.map (·.1)) (dueL (ys.map (·.1)) olds "a" wd) "b" "met").map V.str)) = H9 at s9 g8 s79 ⊢
  have t9 := Tabs.same t7 s79
  have ld2 := due_len (k := "b") (w := "met") ln2
  have md2 := due_mem (k := "b") metm md (names := ys.map (·.1))
  refine ⟨t9, fun H10 e10 t10 H11 Ec Qc s11 hM hI hQ => ?_⟩
  have e911 : ExtN H9 H11 := e10.trans (Same.toN s11)
  have e11 : ExtN H1 H11 := (e7.trans (Same.toN s79)).trans e911
  have t11 := Tabs.same t10 s11
  have T11 := T.ext e11
  refine ⟨_, rfl, x, dx, _, rfl, T11.x, rfl, _, rfl, rfl, fun d hd => ?_⟩
  refine T11.keep hd (.cons (.str _) (.cons (.str _) .nil)) rfl (by decide) (fun z hz => by rw [no_ba T11] at hz; cases hz) (fun _ => ⟨(fun z hz => by rw [odd_ba hwd] at hz; cases hz), fun _ x' dx' v3 H12 s12 hx' gx' d3 => ?_⟩)
  rw [kept_ba] at d3
  refine hQ x' dx' _ _ _ H12 gx' fun p hp => ⟨_, rfl, _, rfl, _, rfl, (by show 3 ≤ sizeLine; decide), fun p2 hp2 => ?_⟩
  have T12 := T11.ext (Same.toN s12)
  have e912 := e911.trans (Same.toN s12)
  have g812 := e912 _ _ g8 (fun _ z => nomatch z)
  refine T12.ne3 hp hp2 d3 (.tup (.inl (.inl g812)) (strs_dq _)) (by rw [ld2, ld]; omega) md2 ⟨_, rfl, ifF rfl ?_⟩
  have s13' : Same H12 (upd (upd H12 p (.lst [v3, .ref pP, .ref pS])) p2 (.lst [.ref p8, .ref pP, .ref pS])) := (Same.upd hp).trans (Same.upd hp2)
  generalize upd (upd H12 p (.lst [v3, .ref pP, .ref pS])) p2 (.lst [.ref p8, .ref pP, .ref pS]) = H13 at s13' ⊢
  have e13 := (e11.trans (Same.toN s12)).trans (Same.toN s13')
  exact zT D H13 m l n pS xs ys pP pW olds x dx vM _ _ _ _ _ _ _ _ (T.ext e13) (Tabs.same t11 (s12.trans s13')) fun H14 e14 t14 => q H14 (e13.trans e14) t14
end
end Ms
namespace Ms
open PySem PySem.Spec PyProof.Rows L2
/-! ### _law_places: a list that grows while numbers are drawn -/
theorem Fr.relock {m l l' D : Addr} {H H' : Hp} {o : HO} (f : Fr m l l' H H') (h : H D = none) : Fr m l l' H (upd H' D o) :=
  ⟨fun b o e h1 h2 => by rw [upd_ne (ne_of_none e h)]; exact f.keep b o e h1 h2, f.new, fun b h => upd_dom (f.dom b h)⟩
/-- the state, with the growing list locked -/
structure Stt (K : PySem.W.Frag) (H0 : Hp) (m l0 D W : Addr) (ws : List Str) (od : Obj) (u : List V) (l : Addr) (n : Nat) (acc : List V) (ds : List PyData) (Hb : Hp) : Prop where
  frz : Hb D = some (.frz od (.lst u))
  M : Mch Hb m l n
  F : Fr m l0 l H0 Hb
  w : Hb W = some (.lst (ws.map V.str))
  wl : W ≠ l
  it : DqAll K Hb m l acc ds
section
variable {K : PySem.W.Frag} {H0 Hb : Hp} {m l0 D W l : Addr} {ws : List Str} {od : Obj} {u acc : List V} {n : Nat} {ds : List PyData}
theorem Mch.nm {H : Hp} {p : Addr} {o : HO} (M : Mch H m l n) (h : H p = some o) (ho : ∀ kv, o ≠ .dK kv) : p ≠ m := by
  obtain ⟨c, cs, ls, z, h1, _⟩ := M.ex
  exact ne_of h h1 (fun e => ho _ e)
theorem Mch.nl {H : Hp} {p : Addr} {o : HO} (M : Mch H m l n) (h : H p = some o) (ho : ∀ xs, o ≠ .lst xs) : p ≠ l := by
  obtain ⟨c, cs, ls, z, _, _, h1, _⟩ := M.ex
  exact ne_of h h1 (fun e => ho _ e)
theorem Stt.relock (s : Stt K H0 m l0 D W ws od u l n acc ds Hb) (hD : H0 D = none) (od' : Obj) (u' : List V) : Stt K H0 m l0 D W ws od' u' l n acc ds (upd Hb D (.frz od' (.lst u'))) := by
  refine ⟨upd_same, Mch.unlock s.frz s.M, s.F.relock hD, upd_frz s.frz (fun _ _ z => nomatch z) s.w, s.wl, ?_⟩
  exact DqAll.gen (fun a xs q n1 n2 => ⟨upd_frz s.frz (fun _ _ z => nomatch z) q, n1, n2⟩) (fun a xs q => by
    have := Dq.unlock (K := K) (m := m) (l := l) (o := .frz od' (.lst u')) (d := .tuple []) (v := .ref a) s.frz
    rcases q with (q | ⟨o', q⟩) | q
    · exact .inl (.inl (upd_frz s.frz (fun _ _ z => nomatch z) q))
    · have q' : Hb a = some (.frz o' (.tup xs)) := q
      have nb : a ≠ D := fun z => by rw [z, s.frz] at q'; cases q'
      have q2 : upd Hb D (.frz od' (.lst u')) a = some (.frz o' (.tup xs)) := by rw [upd_ne nb]; exact q'
      exact .inl (.inr ⟨o', q2⟩)
    · exact .inr q) (fun a q n1 n2 => ⟨upd_frz s.frz (fun _ _ z => nomatch z) q, n1, n2⟩) _ _ s.it
/-- a step of the machine, the list locked -/
theorem Stt.step (s : Stt K H0 m l0 D W ws od u l n acc ds Hb) {l' : Addr} {n' : Nat} {H' : Hp} (M' : Mch H' m l' n') (f : Fr m l l' Hb H') : Stt K H0 m l0 D W ws od u l' n' acc ds H' := by
  have nD : D ≠ m ∧ D ≠ l := ⟨s.M.nm s.frz (fun _ z => nomatch z), s.M.nl s.frz (fun _ z => nomatch z)⟩
  have nW : W ≠ m := s.M.nm s.w (fun _ z => nomatch z)
  refine ⟨f.keep _ _ s.frz nD.1 nD.2, M', s.F.trans f, f.keep _ _ s.w nW s.wl, ?_, DqAll.step (s.M.step f) _ _ s.it⟩
  rcases f.new with z | z
  · rw [z]; exact s.wl
  · exact ne_of_none s.w z
theorem Stt.grow (s : Stt K H0 m l0 D W ws od u l n acc ds Hb) {H' : Hp} (k : Same Hb H') : Stt K H0 m l0 D W ws od u l n acc ds H' :=
  ⟨k _ _ s.frz, s.M.same k, ⟨fun b o e h1 h2 => k _ _ (s.F.keep b o e h1 h2), s.F.new, fun b h => by
    have h2 := s.F.dom b h
    cases q : Hb b with
    | none => exact absurd q h2
    | some o => rw [k b o q]; exact fun z => nomatch z⟩, k _ _ s.w, s.wl, DqAll.same k _ _ s.it⟩
theorem Stt.mono {n' : Nat} (s : Stt K H0 m l0 D W ws od u l n acc ds Hb) (h : n ≤ n') : Stt K H0 m l0 D W ws od u l n' acc ds Hb := ⟨s.frz, s.M.mono h, s.F, s.w, s.wl, s.it⟩
theorem Stt.more (s : Stt K H0 m l0 D W ws od u l n acc ds Hb) {v : V} {d : PyData} (h : Dq K Hb m l v d) : Stt K H0 m l0 D W ws od u l n (acc ++ [v]) (ds ++ [d]) Hb :=
  ⟨s.frz, s.M, s.F, s.w, s.wl, DqAll.app s.it (.cons h .nil)⟩
/-- a drawn number, the list locked while it is drawn -/
theorem lk_next {E : XK} {σ : L2.St} {Q : VK} {tk : TE} {k : Int} (hD : H0 D = none) (s : Stt K H0 m l0 D W ws od u l n acc ds Hb) (hn : n < 1000000) (hm : σ[0]? = some (some (.ref m))) (h0 : 0 < k) (h1 : k < 1000000)
    (ht : ∀ od' Q', Q' (.int k) (upd Hb D (.frz od' (.lst acc))) → tk σ (upd Hb D (.frz od' (.lst acc))) Q')
    (q : ∀ (r : Int) (l' : Addr) (G : Hp), 0 ≤ r → r < k → Stt K H0 m l0 D W ws od acc l' (n + 1) acc ds G → Q (.int r) (upd G D (.lst acc))) :
    tLockE (tCall spNext [] E (tCons (tVar 0) (tCons tk tNil))) σ (upd Hb D (.lst acc)) Q := by
  refine ⟨D, .lst acc, upd_same, trivial, fun od' => ?_⟩
  rw [upd_upd]
  have s' := s.relock hD od' acc
  refine ⟨_, hm, ht od' _ ⟨m, l, n, k, rfl, s'.M, hn, h0, h1, fun r l' H' r0 r1 M' f => ?_⟩⟩
  have s2 := s'.step M' f
  refine ⟨s2.frz, ?_⟩
  have s3 := s2.relock hD od acc
  have e : upd (upd H' D (.frz od (.lst acc))) D (.lst acc) = upd H' D (.lst acc) := upd_upd ..
  rw [← e]
  exact q r l' _ r0 r1 s3
theorem DqAll.unlock {H : Hp} {L : Addr} {o : HO} {u' : List V} (h : H L = some (.frz od (.lst u'))) {vs : List V} {ds : List PyData} (hd : DqAll K H m l vs ds) : DqAll K (upd H L o) m l vs ds :=
  DqAll.gen (fun a xs q n1 n2 => ⟨upd_frz h (fun _ _ z => nomatch z) q, n1, n2⟩) (fun a xs q => by
    rcases q with (q | ⟨o', q⟩) | q
    · exact .inl (.inl (upd_frz h (fun _ _ z => nomatch z) q))
    · have q' : H a = some (.frz o' (.tup xs)) := q
      have nb : a ≠ L := fun z => by rw [z, h] at q'; cases q'
      have q2 : upd H L o a = some (.frz o' (.tup xs)) := by rw [upd_ne nb]; exact q'
      exact .inl (.inr ⟨o', q2⟩)
    · exact .inr q) (fun a q n1 n2 => ⟨upd_frz h (fun _ _ z => nomatch z) q, n1, n2⟩) _ _ hd
/-- another locked list changes -/
theorem Stt.other (s : Stt K H0 m l0 D W ws od u l n acc ds Hb) {D2 : Addr} {od2 : Obj} {u2 : List V} (g : Hb D2 = some (.frz od2 (.lst u2))) (nD : D2 ≠ D) (h2 : H0 D2 = none) (o : HO) : Stt K H0 m l0 D W ws od u l n acc ds (upd Hb D2 o) :=
  ⟨by rw [upd_ne nD.symm]; exact s.frz, Mch.unlock g s.M, s.F.relock h2, upd_frz g (fun _ _ z => nomatch z) s.w, s.wl, DqAll.unlock g s.it⟩
theorem upd_two {H : Hp} {a b : Addr} {o o' : HO} (h : a ≠ b) : upd (upd H a o) b o' = upd (upd H b o') a o := by
  funext x
  by_cases e1 : x = a
  · rw [e1, upd_ne h, upd_same, upd_same]
  · by_cases e2 : x = b
    · rw [e2, upd_same, upd_ne (fun z => e1 (e2.trans z)), upd_same]
    · rw [upd_ne e2, upd_ne e1, upd_ne e1, upd_ne e2]
/-- the same with two lists that are locked -/
theorem lk2_next {E : XK} {σ : L2.St} {Q : VK} {tk : TE} {k : Int} {D2 : Addr} {od2 : Obj} {u2 ns : List V} (hD : H0 D = none) (hD2 : H0 D2 = none) (nD : D2 ≠ D) (s : Stt K H0 m l0 D W ws od u l n acc ds Hb) (g2 : Hb D2 = some (.frz od2 (.lst u2))) (hn : n < 1000000) (hm : σ[0]? = some (some (.ref m))) (h0 : 0 < k) (h1 : k < 1000000)
    (ht : ∀ G Q', Q' (.int k) G → tk σ G Q')
    (q : ∀ (r : Int) (l' : Addr) (od od2 : Obj) (G : Hp), 0 ≤ r → r < k → Stt K H0 m l0 D W ws od acc l' (n + 1) acc ds G → G D2 = some (.frz od2 (.lst ns)) → Q (.int r) (upd (upd G D2 (.lst ns)) D (.lst acc))) :
    tLockE (tLockE (tCall spNext [] E (tCons (tVar 0) (tCons tk tNil)))) σ (upd (upd Hb D2 (.lst ns)) D (.lst acc)) Q := by
  refine ⟨D, .lst acc, upd_same, trivial, fun od' => ?_⟩
  rw [upd_upd]
  refine ⟨D2, .lst ns, by rw [upd_ne nD, upd_same], trivial, fun od2' => ?_⟩
  rw [← upd_two nD, upd_upd, upd_two nD]
  have s1 := (s.relock hD od' acc).other (od2 := od2) (u2 := u2) (by rw [upd_ne nD]; exact g2) nD hD2 (.frz od2' (.lst ns))
  refine ⟨_, hm, ht _ _ ⟨m, l, n, k, rfl, s1.M, hn, h0, h1, fun r l' H' r0 r1 M' f => ?_⟩⟩
  have s2 := s1.step M' f
  have e2 : H' D2 = some (.frz od2' (.lst ns)) := f.keep _ _ upd_same (s1.M.nm upd_same (fun _ z => nomatch z)) (s1.M.nl upd_same (fun _ z => nomatch z))
  exact ⟨e2, by rw [upd_ne nD.symm]; exact s2.frz, q r l' _ _ _ r0 r1 s2 e2⟩
end
end Ms
namespace Ms
open PySem PySem.Spec PyProof.Rows L2 LamX StX
/-! ### _law_kept_right: its beginning -/
/-- a step of the machine where lambdas are made: tables may grow -/
structure Stp (m l l' : Addr) (H H' : Hp) : Prop where
  keep : ∀ b o, H b = some o → b ≠ m → b ≠ l → (∀ ps, o ≠ .tbl ps) → H' b = some o
  ne : ∀ b o, H b = some o → b ≠ l → b ≠ l'
theorem Stp.ofK {m l l' : Addr} {H H' : Hp} (k : Kept m l l' H H') : Stp m l l' H H' := ⟨fun b o h h1 h2 _ => k.keep b o h h1 h2, k.ne⟩
theorem Stp.ext {m l l' : Addr} {H H1 H2 : Hp} (s : Stp m l l' H H1) (e : ExtN H1 H2) : Stp m l l' H H2 := ⟨fun b o h h1 h2 n => e _ _ (s.keep b o h h1 h2 n) n, s.ne⟩
theorem Stp.trans {m l l1 l2 : Addr} {H H1 H2 : Hp} (a : Stp m l l1 H H1) (b : Stp m l1 l2 H1 H2) (na : ∀ c o, H c = some o → (∀ ps, o ≠ .tbl ps) → c ≠ m → c ≠ l → H1 c = some o → c ≠ l1) : ∀ c o, H c = some o → c ≠ m → c ≠ l → (∀ ps, o ≠ .tbl ps) → H2 c = some o := fun c o h h1 h2 n =>
  b.keep c o (a.keep c o h h1 h2 n) h1 (na c o h n h1 h2 (a.keep c o h h1 h2 n)) n
theorem Prs.keptK {H H' : Hp} {m l l' : Addr} {as : List Addr} {ys : List (Str × Int)} (k : Kept m l l' H H') (p : Prs H as ys) : Prs H' as ys := by
  obtain ⟨z1, e1⟩ := k.am
  obtain ⟨z2, e2⟩ := k.al
  refine Prs.same (fun b o hb e => ?_) p
  obtain ⟨y, i, h⟩ := p.live b hb
  exact k.keep b o e (ne_of h e1 (by intro z; cases z)) (ne_of h e2 (by intro z; cases z))
theorem Kept.atK {H H' : Hp} {m l l' a : Addr} {xs : List V} (k : Kept m l l' H H') (h : H a = some (.tup xs)) : H' a = some (.tup xs) := by
  obtain ⟨z1, e1⟩ := k.am
  obtain ⟨z2, e2⟩ := k.al
  exact k.keep a _ h (ne_of h e1 (by intro z; cases z)) (ne_of h e2 (by intro z; cases z))
structure SpK (ys : List (Str × Int)) : Prop where
  so : SetOk ys
  na : ("a" : Str) ∈ ys.map (·.1)
  nb : ("b" : Str) ∈ ys.map (·.1)
  nc : ("c" : Str) ∉ ys.map (·.1)
theorem nmA : nmOk ("a" : Str) := ⟨by decide, by decide, fun c hc => by
  have h : c ∈ ([97] : List Nat) := hc
  rw [List.mem_singleton.mp h]
  exact ⟨by decide, by decide⟩⟩
theorem nmB : nmOk ("b" : Str) := ⟨by decide, by decide, fun c hc => by
  have h : c ∈ ([98] : List Nat) := hc
  rw [List.mem_singleton.mp h]
  exact ⟨by decide, by decide⟩⟩
theorem nmS : nmOk ("self" : Str) := ⟨by decide, by decide, fun c hc => by
  have h : c ∈ ([115, 101, 108, 102] : List Nat) := hc
  simp only [List.mem_cons, List.mem_nil_iff, or_false] at h
  rcases h with rfl | rfl | rfl | rfl <;> exact ⟨by decide, by decide⟩⟩
theorem spk1 : SpK [("a", 1), ("b", 2)] := ⟨⟨by decide, by decide, fun q hq => by
    rcases List.mem_cons.mp hq with rfl | hq
    · exact nmA
    · rw [List.mem_singleton.mp hq]; exact nmB, fun q hq => by
    rcases List.mem_cons.mp hq with rfl | hq
    · decide
    · rw [List.mem_singleton.mp hq]; decide, by decide, by decide⟩, by decide, by decide, by decide⟩
theorem spk2 : SpK [("b", 2), ("a", 1)] := ⟨⟨by decide, by decide, fun q hq => by
    rcases List.mem_cons.mp hq with rfl | hq
    · exact nmB
    · rw [List.mem_singleton.mp hq]; exact nmA, fun q hq => by
    rcases List.mem_cons.mp hq with rfl | hq
    · decide
    · rw [List.mem_singleton.mp hq]; decide, by decide, by decide⟩, by decide, by decide, by decide⟩
theorem spk3 : SpK [("a", 1), ("b", 1), ("self", 1)] := ⟨⟨by decide, by decide, fun q hq => by
    rcases List.mem_cons.mp hq with rfl | hq
    · exact nmA
    · rcases List.mem_cons.mp hq with rfl | hq
      · exact nmB
      · rw [List.mem_singleton.mp hq]; exact nmS, fun q hq => by
    rcases List.mem_cons.mp hq with rfl | hq
    · decide
    · rcases List.mem_cons.mp hq with rfl | hq
      · decide
      · rw [List.mem_singleton.mp hq]; decide, by decide, by decide⟩, by decide, by decide, by decide⟩
theorem md3_at {r : Int} (h0 : 0 ≤ r) (h1 : r < 3) : ∃ z : Str, atI ([.str "live", .str "met", .str "begin"] : List V) r = some (.str z) ∧ z ∈ (["live", "met", "begin"] : List Str) := by
  obtain ⟨j, rfl⟩ : ∃ j : Nat, r = (j : Int) := ⟨r.toNat, by omega⟩
  have hj : j < 3 := by omega
  match j, hj with
  | 0, _ => exact ⟨_, rfl, by decide⟩
  | 1, _ => exact ⟨_, rfl, by decide⟩
  | 2, _ => exact ⟨_, rfl, by decide⟩
section
variable {P : Program} {w : World} {K : PySem.W.Frag} {mg : Str → Option Value} {base : Heap} {C CS CP CM CI fKp fTo fN fR f c Pk Pl : Addr} {fdTo fdN fdR : FuncData}
def spKR (Pk Pl : Addr) : Sp := fun vs H Q _ => ∃ (m l : Addr) (n : Nat), vs = [.ref m] ∧ Mch H m l n ∧ n < 500000 ∧ Tabs (tabsK Pk Pl) H ∧ ∀ l' H', Mch H' m l' (n + 9) → Stp m l l' H H' → Tabs (tabsK Pk Pl) H' → Q (.bl true) H'
theorem ok_kept {fd : FuncData} (F : Fun K "_law_kept_right" "_law_kept_right" sKept f fd) (hc : fd.code = .ref c) (G : G6 mg fTo C CM CI) (X6 : C6 K C CM CI fKp) (KP : Kps P w K mg base C CM CI fKp) (T : Txt mg) (hnext : mg "_law_next" = some (.ref fN)) (htup : mg "tuple" = none) (hzip : mg "zip" = none)
    (FN : Fun K "_law_next" "_law_next" sNext fN fdN) (bN : Binds K fdN ["m", "many"] []) (MkC : Mk K C fR) (GR : FnOk P w K mg base (L2.CX P w) 6 fR fdR psS (spReq K C CS CP CM)) (b4 : Binds K fdR psS [])
    (FT : Fun K "_law_told" "_law_told" sTold fTo fdTo) (bT : Binds K fdTo ["call"] []) (TB : TabB base mg c Pk) (nP : Pk ≠ Pl) :
    FnOk P w K mg base CX0 12 f fd ["m"] (spKR Pk Pl) := by
  obtain ⟨oc, od, kV, doc, pm, an, cdv, ct, osl, efd, lk, hcd⟩ := F.ex
  subst efd
  obtain rfl : cdv = .ref c := hc
  have GN : FnOk P w K mg base CX0 1 fN fdN ["m", "many"] spNext := ok_next FN T
  refine fn_of lk hcd scK (fun vs H Q E h => ?_) (fun A outer s H vs Q E hr h => ?_)
  · obtain ⟨m, l, n, rfl, _⟩ := h
    rfl
  obtain ⟨m, l, n, rfl, M, hn, tb, q⟩ := h
  have hr1 : Room 1 (A.deeper (envOfC "_law_kept_right" (defScope sKept) s.heap.objs.size f (.ref c))) := hr.mono (by decide)
  have hr7 : Room 7 (A.deeper (envOfC "_law_kept_right" (defScope sKept) s.heap.objs.size f (.ref c))) := hr.mono (by decide)
  obtain ⟨t1, d1, z1⟩ := kr_last (H0 := H) (Eb := E) G X6 KP FT bT TB nP hr
  obtain ⟨t2, d2, z2⟩ := kr_none (H0 := H) (Eb := E) G X6 KP FT bT TB nP hr d1 z1
  obtain ⟨t3, d3, z3⟩ := kr_both (H0 := H) (Eb := E) G X6 KP htup hzip FT bT TB nP hr d2 z2
  clear z1 z2 d1 d2
  refine ⟨_, pss_cons (ps_set (i := 1) scK.nd rfl (by first | exact Or.inl rfl | exact Or.inr rfl) (pe_ix (show IxR _ (rIxL K) from ix_list) (pe_lst (pa_cons (pe_tup (pa_cons (pe_tup (pa_cons pe_str (pa_cons pe_int pa_nil))) (pa_cons (pe_tup (pa_cons pe_str (pa_cons pe_int pa_nil))) pa_nil)))
        (pa_cons (pe_tup (pa_cons (pe_tup (pa_cons pe_str (pa_cons pe_int pa_nil))) (pa_cons (pe_tup (pa_cons pe_str (pa_cons pe_int pa_nil))) pa_nil)))
        (pa_cons (pe_tup (pa_cons (pe_tup (pa_cons pe_str (pa_cons pe_int pa_nil))) (pa_cons (pe_tup (pa_cons pe_str (pa_cons pe_int pa_nil))) (pa_cons (pe_tup (pa_cons pe_str (pa_cons pe_int pa_nil))) pa_nil)))) pa_nil))))
      (pe_call GN hr1 (by rfl) hnext FN.kp bN .nil pass0 (pa_cons (pv 0) (pa_cons pe_int pa_nil))) (fun _ _ => rfl)))
    (pss_cons (ps_par (i := 2) (j := 3) (by rfl) scK.nd rfl rfl (by decide) rfl rfl (pa_cons (pe_tup (pa_cons (pe_tup (pa_cons pe_str pa_nil)) pa_nil)) (pa_cons
        (pe_callTy call_tuple_of (by rfl) htup (by decide +kernel) (pa_cons (pe_lc (own := [("one", 4)]) (g := gName 4) (by rfl) scK.nd (pi_tup (pv 1)) (blkOk_by (own := [("one", 4)]) (N := NK) (sc := defScope sKept) (by decide +kernel))
          (fun _ _ _ _ _ => pg_name (i := 4) scK.nd rfl (by first | exact Or.inl rfl | exact Or.inr rfl)) (fun _ _ _ _ _ => pts_nil) (fun _ _ _ _ _ => pe_lock (pe_ix (show IxR _ (rIxL K) from ix_list) (pe_lst (pa_cons pe_str (pa_cons pe_str (pa_cons pe_str pa_nil)))) (pe_call GN hr1 (by rfl) hnext FN.kp bN .nil pass0 (pa_cons (pv 0) (pa_cons pe_int pa_nil))) (fun _ _ => rfl)))) pa_nil)) pa_nil)) (by rfl))
    (pss_cons (ps_set (i := 4) scK.nd rfl (by first | exact Or.inl rfl | exact Or.inr rfl) (pe_make (E := fun _ _ _ => False) MkC GR hr7 (by rfl) G.req b4 .nil (passes_call noTk fun _ _ _ _ h => h) (pa_cons (pv 1) (pa_cons (pv 2) (pa_cons (pv 3) pa_nil)))))
    (pss_cons (ps_asg (pe_tup (pa_cons (pe_lc (own := [("name", 10), ("most", 11)]) (g := gTup K 2 (gCons (gName 10) (gCons (gName 11) gNil))) (by rfl) scK.nd (pi_tup (pv 1)) (blkOk_by (own := [("name", 10), ("most", 11)]) (N := NK) (sc := defScope sKept) (by decide +kernel))
          (fun _ _ _ _ _ => pg_tup rfl (pgs_cons (pg_name (i := 10) scK.nd rfl (Or.inl rfl)) (pgs_cons (pg_name (i := 11) scK.nd rfl (Or.inl rfl)) pgs_nil))) (fun _ _ _ _ _ => pts_nil) (fun _ _ _ _ _ => pv 10))
        (pa_cons (pe_ix (show IxR _ (rIxL K) from ix_list) (pe_lst (pa_cons pe_str (pa_cons pe_str (pa_cons pe_str pa_nil)))) (pe_call GN hr1 (by rfl) hnext FN.kp bN .nil pass0 (pa_cons (pv 0) (pa_cons pe_int pa_nil))) (fun _ _ => rfl)) pa_nil)))
      (pg_tup rfl (pgs_cons (pg_name (i := 5) scK.nd rfl (by first | exact Or.inl rfl | exact Or.inr rfl)) (pgs_cons (pg_name (i := 6) scK.nd rfl (by first | exact Or.inl rfl | exact Or.inr rfl)) pgs_nil)))) d3))), ?_⟩
  generalize hH1 : H = H1 at M tb q ⊢
  refine ⟨(by show 2 ≤ sizeLine; decide), fun p1 h1 => ?_⟩
  obtain ⟨G1, e1⟩ : ∃ G, G = upd H1 p1 (.tup [.str "a", .int 1]) := ⟨_, rfl⟩
  rw [← e1]
  have s1 : Same H1 G1 := e1 ▸ Same.upd h1
  have q1 : G1 p1 = some (.tup [.str "a", .int 1]) := by rw [e1, upd_same]
  clear e1
  refine ⟨(by show 2 ≤ sizeLine; decide), fun p2 h2 => ?_⟩
  obtain ⟨G2, e2⟩ : ∃ G, G = upd G1 p2 (.tup [.str "b", .int 2]) := ⟨_, rfl⟩
  rw [← e2]
  have s2 : Same G1 G2 := e2 ▸ Same.upd h2
  have q2 : G2 p2 = some (.tup [.str "b", .int 2]) := by rw [e2, upd_same]
  clear e2
  replace q1 := s2 _ _ q1
  refine ⟨(by show 2 ≤ sizeLine; decide), fun p3 h3 => ?_⟩
  obtain ⟨G3, e3⟩ : ∃ G, G = upd G2 p3 (.tup [.ref p1, .ref p2]) := ⟨_, rfl⟩
  rw [← e3]
  have s3 : Same G2 G3 := e3 ▸ Same.upd h3
  have q3 : G3 p3 = some (.tup [.ref p1, .ref p2]) := by rw [e3, upd_same]
  clear e3
  replace q1 := s3 _ _ q1
  replace q2 := s3 _ _ q2
  refine ⟨(by show 2 ≤ sizeLine; decide), fun p4 h4 => ?_⟩
  obtain ⟨G4, e4⟩ : ∃ G, G = upd G3 p4 (.tup [.str "b", .int 2]) := ⟨_, rfl⟩
  rw [← e4]
  have s4 : Same G3 G4 := e4 ▸ Same.upd h4
  have q4 : G4 p4 = some (.tup [.str "b", .int 2]) := by rw [e4, upd_same]
  clear e4
  replace q1 := s4 _ _ q1
  replace q2 := s4 _ _ q2
  replace q3 := s4 _ _ q3
  refine ⟨(by show 2 ≤ sizeLine; decide), fun p5 h5 => ?_⟩
  obtain ⟨G5, e5⟩ : ∃ G, G = upd G4 p5 (.tup [.str "a", .int 1]) := ⟨_, rfl⟩
  rw [← e5]
  have s5 : Same G4 G5 := e5 ▸ Same.upd h5
  have q5 : G5 p5 = some (.tup [.str "a", .int 1]) := by rw [e5, upd_same]
  clear e5
  replace q1 := s5 _ _ q1
  replace q2 := s5 _ _ q2
  replace q3 := s5 _ _ q3
  replace q4 := s5 _ _ q4
  refine ⟨(by show 2 ≤ sizeLine; decide), fun p6 h6 => ?_⟩
  obtain ⟨G6, e6⟩ : ∃ G, G = upd G5 p6 (.tup [.ref p4, .ref p5]) := ⟨_, rfl⟩
  rw [← e6]
  have s6 : Same G5 G6 := e6 ▸ Same.upd h6
  have q6 : G6 p6 = some (.tup [.ref p4, .ref p5]) := by rw [e6, upd_same]
  clear e6
  replace q1 := s6 _ _ q1
  replace q2 := s6 _ _ q2
  replace q3 := s6 _ _ q3
  replace q4 := s6 _ _ q4
  replace q5 := s6 _ _ q5
  refine ⟨(by show 2 ≤ sizeLine; decide), fun p7 h7 => ?_⟩
  obtain ⟨G7, e7⟩ : ∃ G, G = upd G6 p7 (.tup [.str "a", .int 1]) := ⟨_, rfl⟩
  rw [← e7]
  have s7 : Same G6 G7 := e7 ▸ Same.upd h7
  have q7 : G7 p7 = some (.tup [.str "a", .int 1]) := by rw [e7, upd_same]
  clear e7
  replace q1 := s7 _ _ q1
  replace q2 := s7 _ _ q2
  replace q3 := s7 _ _ q3
  replace q4 := s7 _ _ q4
  replace q5 := s7 _ _ q5
  replace q6 := s7 _ _ q6
  refine ⟨(by show 2 ≤ sizeLine; decide), fun p8 h8 => ?_⟩
  obtain ⟨G8, e8⟩ : ∃ G, G = upd G7 p8 (.tup [.str "b", .int 1]) := ⟨_, rfl⟩
  rw [← e8]
  have s8 : Same G7 G8 := e8 ▸ Same.upd h8
  have q8 : G8 p8 = some (.tup [.str "b", .int 1]) := by rw [e8, upd_same]
  clear e8
  replace q1 := s8 _ _ q1
  replace q2 := s8 _ _ q2
  replace q3 := s8 _ _ q3
  replace q4 := s8 _ _ q4
  replace q5 := s8 _ _ q5
  replace q6 := s8 _ _ q6
  replace q7 := s8 _ _ q7
  refine ⟨(by show 2 ≤ sizeLine; decide), fun p9 h9 => ?_⟩
  obtain ⟨G9, e9⟩ : ∃ G, G = upd G8 p9 (.tup [.str "self", .int 1]) := ⟨_, rfl⟩
  rw [← e9]
  have s9 : Same G8 G9 := e9 ▸ Same.upd h9
  have q9 : G9 p9 = some (.tup [.str "self", .int 1]) := by rw [e9, upd_same]
  clear e9
  replace q1 := s9 _ _ q1
  replace q2 := s9 _ _ q2
  replace q3 := s9 _ _ q3
  replace q4 := s9 _ _ q4
  replace q5 := s9 _ _ q5
  replace q6 := s9 _ _ q6
  replace q7 := s9 _ _ q7
  replace q8 := s9 _ _ q8
  refine ⟨(by show 3 ≤ sizeLine; decide), fun p10 h10 => ?_⟩
  obtain ⟨G10, e10⟩ : ∃ G, G = upd G9 p10 (.tup [.ref p7, .ref p8, .ref p9]) := ⟨_, rfl⟩
  rw [← e10]
  have s10 : Same G9 G10 := e10 ▸ Same.upd h10
  have q10 : G10 p10 = some (.tup [.ref p7, .ref p8, .ref p9]) := by rw [e10, upd_same]
  clear e10
  replace q1 := s10 _ _ q1
  replace q2 := s10 _ _ q2
  replace q3 := s10 _ _ q3
  replace q4 := s10 _ _ q4
  replace q5 := s10 _ _ q5
  replace q6 := s10 _ _ q6
  replace q7 := s10 _ _ q7
  replace q8 := s10 _ _ q8
  replace q9 := s10 _ _ q9
  have s010 : Same H1 G10 := (((((((((s1.trans s2).trans s3).trans s4).trans s5).trans s6).trans s7).trans s8).trans s9).trans s10)
  clear s1 s2 s3 s4 s5 s6 s7 s8 s9 s10
  refine ⟨(by show 3 ≤ sizeLine; decide), fun D hD => ?_⟩
  have M10 := M.same s010
  have nD := M10.ne hD
  obtain ⟨G, eG⟩ : ∃ G, G = upd G10 D (.lst [.ref p3, .ref p6, .ref p10]) := ⟨_, rfl⟩
  rw [← eG]
  have sG : Same G10 G := eG ▸ Same.upd hD
  have gD : G D = some (.lst [.ref p3, .ref p6, .ref p10]) := by rw [eG, upd_same]
  clear eG
  have s1G := s010.trans sG
  have MG := M.same s1G
  have pick : ∀ r : Int, 0 ≤ r → r < 3 → ∃ (a : Addr) (as : List Addr) (ys : List (Str × Int)), atI ([.ref p3, .ref p6, .ref p10] : List V) r = some (.ref a) ∧ G a = some (.tup (as.map V.ref)) ∧ Prs G as ys ∧ SpK ys := by
    intro r h0 h1
    obtain ⟨j, rfl⟩ : ∃ j : Nat, r = (j : Int) := ⟨r.toNat, by omega⟩
    have hj : j < 3 := by omega
    match j, hj with
    | 0, _ => exact ⟨p3, [p1, p2], _, rfl, sG _ _ q3, .cons (sG _ _ q1) (.cons (sG _ _ q2) .nil), spk1⟩
    | 1, _ => exact ⟨p6, [p4, p5], _, rfl, sG _ _ q6, .cons (sG _ _ q4) (.cons (sG _ _ q5) .nil), spk2⟩
    | 2, _ => exact ⟨p10, [p7, p8, p9], _, rfl, sG _ _ q10, .cons (sG _ _ q7) (.cons (sG _ _ q8) (.cons (sG _ _ q9) .nil)), spk3⟩
  refine ⟨_, rfl, m, l, n, 3, rfl, MG, by omega, by decide, by decide, fun r l1 H2 r0 r1 M2 f2 => ?_⟩
  obtain ⟨pS, as, ys, hat, hpS, pr, sk⟩ := pick r r0 r1
  have so := sk.so
  have l3 := so.len3
  have l1y := so.len1
  have la := pr.length
  have k2 := MG.step f2
  refine ⟨D, _, r, .ref pS, rfl, rfl, SqL.of (f2.keep D _ gD nD.1 nD.2), hat, ?_⟩
  clear pick q1 q2 q3 q4 q5 q6 q7 q8 q9 q10 h1 h2 h3 h4 h5 h6 h7 h8 h9 h10 hD gD
  have F2 : Fr m l l1 H1 H2 := Fr.lead s1G f2
  have t2 : Tabs (tabsK Pk Pl) H2 := Tabs.fr MG f2 (Tabs.same tb s1G)
  have g2 := k2.atK hpS
  have pr2 := pr.keptK k2
  clear k2 hpS pr f2 MG M10 s1G s010 sG
  -- the places
  refine ⟨(by show 1 ≤ sizeLine; decide), fun p1 hp1 => ⟨(by show 1 ≤ sizeLine; decide), fun pP hpP => ?_⟩⟩
  have sA : Same H2 (upd H2 p1 (.tup [.str "end"])) := Same.upd hp1
  have sB : Same (upd H2 p1 (.tup [.str "end"])) (upd (upd H2 p1 (.tup [.str "end"])) pP (.tup [.ref p1])) := Same.upd hpP
  have qe := sB _ _ (upd_same (H := H2) (a := p1) (o := .tup [.str "end"]))
  have qP : (upd (upd H2 p1 (.tup [.str "end"])) pP (.tup [.ref p1])) pP = some (.tup [.ref p1]) := upd_same
  have s23 := sA.trans sB
  generalize upd (upd H2 p1 (.tup [.str "end"])) pP (.tup [.ref p1]) = H3 at qe qP s23 ⊢
  have M3 := M2.same s23
  have t3 := Tabs.same t2 s23
  have F3 := F2.trail s23
  have g3 := s23 _ _ g2
  have pr3 := Prs.same (fun b o _ e => s23 b o e) pr2
  -- the words
  refine ⟨_, rfl, pS, rfl, ⟨_, SqT.of g3⟩, fun D2 hD2 => ?_⟩
  have aM := M3.nm g3 (fun _ z => nomatch z)
  have aL := M3.nl g3 (fun _ z => nomatch z)
  obtain ⟨od0, e0⟩ : ∃ od0 : Obj, od0 = { cls := .none, data := .plain } := ⟨_, rfl⟩
  refine lc_it (walk_tup (xs := as.map V.ref)) (fun i G3 => ∃ (Hb : Hp) (od : Obj) (u : List V) (zs : List Str) (l2 : Addr), G3 = upd Hb D2 (.lst (zs.map V.str)) ∧ Hb D2 = some (.frz od (.lst u)) ∧ Mch Hb m l2 (n + 1 + i) ∧ Fr m l1 l2 H3 Hb ∧ Tabs (tabsK Pk Pl) Hb ∧ zs.length = i ∧ ∀ z ∈ zs, z ∈ (["live", "met", "begin"] : List Str))
    ⟨upd H3 D2 (.frz od0 (.lst [])), od0, [], [], l1, by rw [upd_upd]; rfl, upd_same, M3.same (Same.upd hD2), (Fr.refl M3).junk hD2, Tabs.same t3 (Same.upd hD2), rfl, (fun z h => nomatch h)⟩ (fun i G3 _ ⟨Hb, od, u, zs, l2, e3, g, Mb, fb, _⟩ => SqT.of (by rw [e3, upd_ne (ne_of_none g3 hD2)]; exact fb.keep _ _ g3 aM aL)) ?_ ?_
  · rintro i x G3 G4 hi ⟨Hb, od, u, zs, l2, rfl, g, Mb, fb, tbb, zl, zo⟩ ⟨rfl, hx⟩
    rw [List.length_map] at hi
    refine ⟨rfl, tyes ⟨D2, .lst (zs.map V.str), upd_same, trivial, fun od' => ?_⟩⟩
    rw [upd_upd]
    have Mc : Mch (upd Hb D2 (.frz od' (.lst (zs.map V.str)))) m l2 (n + 1 + i) := Mch.unlock g Mb
    have fc := fb.relock (o := .frz od' (.lst (zs.map V.str))) hD2
    have tc : Tabs (tabsK Pk Pl) (upd Hb D2 (.frz od' (.lst (zs.map V.str)))) := Tabs.unlock g tbb
    refine ⟨(by show 3 ≤ sizeLine; decide), fun p hp => ?_⟩
    have sp : Same (upd Hb D2 (.frz od' (.lst (zs.map V.str)))) (upd (upd Hb D2 (.frz od' (.lst (zs.map V.str)))) p (.lst [.str "live", .str "met", .str "begin"])) := Same.upd hp
    have np := Mc.ne hp
    refine ⟨_, rfl, m, l2, n + 1 + i, 3, rfl, Mc.same sp, by omega, by decide, by decide, fun r l5 H5 r0 r4 M5 f5 => ?_⟩
    obtain ⟨z, hz, zk⟩ := md3_at r0 r4
    have g5 : H5 D2 = some (.frz od' (.lst (zs.map V.str))) := f5.keep _ _ (sp _ _ upd_same) (Mc.nm upd_same (fun _ z => nomatch z)) (Mc.nl upd_same (fun _ z => nomatch z))
    refine ⟨p, _, r, .str z, rfl, rfl, SqL.of (f5.keep _ _ upd_same np.1 np.2), hz, g5, zs.map V.str, upd_same, small1000 (by rw [List.length_map]; omega), H5, od', _, zs ++ [z], l5, ?_, g5, M5, fc.trans (Fr.lead sp f5), Tabs.fr (Mc.same sp) f5 (Tabs.same tc sp), by simp [zl], fun y hy => ?_⟩
    · rw [upd_upd, List.map_append]; rfl
    · rcases List.mem_append.mp hy with hy | hy
      · exact zo y hy
      · rw [List.mem_singleton.mp hy]; exact zk
  rintro G3 ⟨Hb, od, u, zs, l2, rfl, g, Mb, fb, tbb, zl, zo⟩
  rw [List.length_map] at zl Mb
  refine ⟨D2, _, rfl, .inl ⟨SqL.of upd_same, fun pW hpW => ⟨_, _, rfl, ?_⟩⟩⟩
  have sp : Same (upd Hb D2 (.lst (zs.map V.str))) (upd (upd Hb D2 (.lst (zs.map V.str))) pW (.tup (zs.map V.str))) := Same.upd hpW
  have M5 : Mch (upd (upd Hb D2 (.lst (zs.map V.str))) pW (.tup (zs.map V.str))) m l2 (n + 1 + 3) := ((Mch.unlock g Mb).same sp).mono (by omega)
  have f35 : Fr m l1 l2 H3 (upd (upd Hb D2 (.lst (zs.map V.str))) pW (.tup (zs.map V.str))) := (fb.relock hD2).junk hpW
  have t5 : Tabs (tabsK Pk Pl) (upd (upd Hb D2 (.lst (zs.map V.str))) pW (.tup (zs.map V.str))) := Tabs.same (Tabs.unlock g tbb) sp
  have gW : (upd (upd Hb D2 (.lst (zs.map V.str))) pW (.tup (zs.map V.str))) pW = some (.tup (zs.map V.str)) := upd_same
  generalize upd (upd Hb D2 (.lst (zs.map V.str))) pW (.tup (zs.map V.str)) = H5 at M5 f35 t5 gW sp ⊢
  have k5 := M3.step f35
  have F5 := F3.trans f35
  have g5 := k5.atK g3
  have pr5 := pr3.keptK k5
  have qe5 := k5.atK qe
  have qP5 := k5.atK qP
  -- the request
  have dS5 : Dq K H5 m l2 (.ref pS) (.tuple (prD ys)) := .tup (.inl (.inl g5)) pr5.dq
  have dP5 : Dq K H5 m l2 (.ref pP) plcD := .tup (.inl (.inl qP5)) (.cons (.tup (.inl (.inl qe5)) (.cons (.str _) .nil)) .nil)
  have dW5 : Dq K H5 m l2 (.ref pW) (.tuple (zs.map .str)) := .tup (.inl (.inl gW)) (strs_dq zs)
  refine ⟨_, rfl, _, rfl, _, rfl, fun x dx hx0 hdx0 ne0 => ?_⟩
  refine req_okQ (b1 := 2) (B1 := 10 ^ 31) (b2 := 3) (B2 := big) so dS5 ((spots_goodK so).mono (Nat.le_refl _) (by decide) (Nat.le_refl _)) dP5 plc_good dW5 (plc_no so) (modes_no (by omega) zo) hx0 hdx0 ne0 fun vM H6 s6 gx hM => ⟨rfl, ?_⟩
  have M6 := M5.same s6
  have t6 := Tabs.same t5 s6
  have F6 := F5.trail s6
  have g6 := s6 _ _ g5
  have pr6 := Prs.same (fun b o _ e => s6 b o e) pr5
  -- the names
  refine ⟨_, rfl, pS, rfl, ⟨_, SqT.of g6⟩, fun D3 hD3 => ?_⟩
  refine lc_it (walk_tup (xs := as.map V.ref)) (fun i G3 => G3 = upd H6 D3 (.lst (((ys.take i).map (·.1)).map V.str))) rfl (fun i G3 _ e3 => by rw [e3]; exact SqT.of (by rw [upd_ne (ne_of_none g6 hD3)]; exact g6)) ?_ ?_
  · rintro i x0 G3 G4 hi e3 ⟨rfl, hx⟩
    rw [List.length_map] at hi
    have hx : (as.map V.ref)[i]? = some x0 := hx
    rw [List.getElem?_map, List.getElem?_eq_getElem hi] at hx
    cases hx
    obtain ⟨yy, hyy, hb⟩ : ∃ yy, ys[i]? = some yy ∧ H6 as[i] = some (.tup [.str yy.1, .int yy.2]) := by
      obtain ⟨y, k, h1, h2⟩ := pr6.get (List.getElem?_eq_getElem hi)
      exact ⟨(y, k), h1, h2⟩
    have hb3 : SqT K G4 as[i] [.str yy.1, .int yy.2] := by rw [e3]; exact SqT.of (by rw [upd_ne (ne_of_none hb hD3)]; exact hb)
    have ti : ys.take (i + 1) = ys.take i ++ [yy] := by rw [List.take_succ, hyy]; rfl
    refine ⟨as[i], _, rfl, hb3, rfl, _, _, rfl, _, _, rfl, rfl, rfl, tyes ⟨_, rfl, _, by rw [e3]; exact upd_same, small1000 (by rw [List.length_map, List.length_map, List.length_take]; omega), ?_⟩⟩
    show upd G4 D3 _ = _
    rw [e3, upd_upd, ti, List.map_append, List.map_append]
    rfl
  rintro G3 rfl
  rw [List.take_of_length_le (by rw [List.length_map]; omega)]
  have s7 : Same H6 (upd H6 D3 (.lst ((ys.map (·.1)).map V.str))) := Same.upd hD3
  have gN : (upd H6 D3 (.lst ((ys.map (·.1)).map V.str))) D3 = some (.lst ((ys.map (·.1)).map V.str)) := upd_same
  have nD3 := M6.ne hD3
  generalize upd H6 D3 (.lst ((ys.map (·.1)).map V.str)) = H7 at s7 gN ⊢
  have M7 := M6.same s7
  -- the word
  refine ⟨(by show 3 ≤ sizeLine; decide), fun p hp => ?_⟩
  have s8 : Same H7 (upd H7 p (.lst [.str "live", .str "met", .str "begin"])) := Same.upd hp
  have gp : (upd H7 p (.lst [.str "live", .str "met", .str "begin"])) p = some (.lst [.str "live", .str "met", .str "begin"]) := upd_same
  have np := M7.ne hp
  generalize upd H7 p (.lst [.str "live", .str "met", .str "begin"]) = H8 at s8 gp ⊢
  have M8 := M7.same s8
  have s68 := s7.trans s8
  refine ⟨_, rfl, m, l2, n + 1 + 3, 3, rfl, M8, by omega, by decide, by decide, fun r2 l9 H9 r20 r23 M9 f9 => ?_⟩
  obtain ⟨wd, hwd, wk⟩ := md3_at r20 r23
  refine ⟨p, _, r2, .str wd, rfl, rfl, SqL.of (f9.keep _ _ gp np.1 np.2), hwd, ?_⟩
  have k9 := M8.step f9
  have F9 : Fr m l l9 H1 H9 := (F6.trail s68).trans f9
  have t9 : Tabs (tabsK Pk Pl) H9 := Tabs.fr M8 f9 (Tabs.same t6 s68)
  have gN9 : H9 D3 = some (.lst ((ys.map (·.1)).map V.str)) := f9.keep _ _ (s8 _ _ gN) nD3.1 nD3.2
  have s58 := s6.trans s68
  refine ⟨(by show 2 ≤ sizeLine; decide), fun pT hpT => ⟨pT, _, rfl, .inl (.inl upd_same), rfl, _, _, rfl, _, _, rfl, rfl, ?_⟩⟩
  have s10 : Same H9 (upd H9 pT (.tup [.ref D3, .str wd])) := Same.upd hpT
  generalize upd H9 pT (.tup [.ref D3, .str wd]) = H10 at s10 ⊢
  have x9 : H9 x = some (.ins C dx (reqF (.ref pS) (.ref pP) vM)) := f9.keep _ _ (s68 _ _ gx) (M8.nm (s68 _ _ gx) (fun _ z => nomatch z)) (M8.nl (s68 _ _ gx) (fun _ z => nomatch z))
  have T10 : KRs K H10 m l9 (n + 1 + 3 + 1) C pS (as.map V.ref) ys pP pW zs x dx vM :=
    ⟨M9.same s10, so, sk.na, sk.nb, sk.nc, .inl (.inl (s10 _ _ (k9.atK (s58 _ _ g5)))), DqAll.same s10 _ _ (DqAll.step k9 _ _ (DqAll.same s58 _ _ pr5.dq)), Dq.same s10 _ _ (Dq.step k9 _ _ (Dq.same s58 _ _ dP5)), s10 _ _ (k9.atK (s58 _ _ gW)), by omega, zo, s10 _ _ x9, Dq.same s10 _ _ (Dq.step k9 _ _ (Dq.same s68 _ _ hM))⟩
  refine z3 _ H10 m l9 _ pS _ ys pP pW zs x dx vM D3 wd _ _ _ _ _ _ T10 (s10 _ _ gN9) wk (Tabs.same t9 s10) fun H11 e11 t11 => ?_
  have e9 : ExtN H9 H11 := (Same.toN s10).trans e11
  exact q l9 H11 ((Mch.ext e9 M9).mono (by omega)) ((Stp.ofK (M.step F9)).ext e9) t11
end
end Ms
namespace Ms
open PySem PySem.Spec PyProof.Rows L2 LamX StX
/-! ### law k06: the state of a turn; its last statements -/
abbrev forBody (s : Stmt) : List Stmt := match s with
  | .For _ _ b _ _ => b
  | _ => []
abbrev bTurn : List Stmt := forBody ((defBody sLaw).getD 1 (.Pass ⟨0, 0, 0, 0⟩))
abbrev NL : List Str := ["script", "m", "turn", "spots", "places", "words", "more", "far", "one", "two", "bad", "due", "bare", "thing"]
theorem scL : FnScope NL ["script"] (defScope sLaw) := ⟨rfl, rfl, rfl, by decide +kernel, rfl, by decide +kernel, by decide +kernel⟩
/-- tuples of which the very object is told, or new ones -/
def TupAt (H : Hp) (p : Addr) (xs : List V) : Prop := H p = some (.tup xs) ∨ ∃ ob, H p = some (.frz ob (.tup xs))
theorem TupAt.seqT {K : PySem.W.Frag} {H : Hp} {p : Addr} {xs : List V} (h : TupAt H p xs) : SqT K H p xs := by
  rcases h with h | ⟨ob, h⟩
  · exact .inl (.inl h)
  · exact .inl (.inr ⟨ob, h⟩)
theorem TupAt.ext {H H' : Hp} {p : Addr} {xs : List V} (e : ExtN H H') (h : TupAt H p xs) : TupAt H' p xs := by
  rcases h with h | ⟨ob, h⟩
  · exact .inl (e _ _ h fun _ z => nomatch z)
  · exact .inr ⟨ob, e _ _ h fun _ z => nomatch z⟩
theorem TupAt.stp {H H' : Hp} {m l l' p : Addr} {n : Nat} {xs : List V} (M : Mch H m l n) (s : Stp m l l' H H') (h : TupAt H p xs) : TupAt H' p xs := by
  rcases h with h | ⟨ob, h⟩
  · exact .inl (s.keep _ _ h (M.nm h fun _ z => nomatch z) (M.nl h fun _ z => nomatch z) fun _ z => nomatch z)
  · exact .inr ⟨ob, s.keep _ _ h (M.nm h fun _ z => nomatch z) (M.nl h fun _ z => nomatch z) fun _ z => nomatch z⟩
theorem seqT_stp {K : PySem.W.Frag} {H H' : Hp} {m l l' p : Addr} {n : Nat} {xs : List V} (M : Mch H m l n) (s : Stp m l l' H H') (h : SqT K H p xs) : SqT K H' p xs := by
  rcases h with (h | ⟨ob, h⟩) | h
  · exact .inl (.inl (s.keep _ _ h (M.nm h fun _ z => nomatch z) (M.nl h fun _ z => nomatch z) fun _ z => nomatch z))
  · exact .inl (.inr ⟨ob, s.keep _ _ h (M.nm h fun _ z => nomatch z) (M.nl h fun _ z => nomatch z) fun _ z => nomatch z⟩)
  · exact .inr h
theorem Dq.stp {K : PySem.W.Frag} {H H' : Hp} {m l l' : Addr} {n : Nat} {v : V} {d : PyData} (M : Mch H m l n) (s : Stp m l l' H H') (h : Dq K H m l v d) : Dq K H' m l' v d :=
  Dq.gen (fun a xs q n1 n2 => ⟨s.keep _ _ q n1 n2 (fun _ z => nomatch z), n1, s.ne _ _ q n2⟩) (fun a xs q => seqT_stp M s q) (fun a q n1 n2 => ⟨s.keep _ _ q n1 n2 (fun _ z => nomatch z), n1, s.ne _ _ q n2⟩) d v h
theorem DqAll.stp {K : PySem.W.Frag} {H H' : Hp} {m l l' : Addr} {n : Nat} {vs : List V} {ds : List PyData} (M : Mch H m l n) (s : Stp m l l' H H') (h : DqAll K H m l vs ds) : DqAll K H' m l' vs ds :=
  DqAll.gen (fun a xs q n1 n2 => ⟨s.keep _ _ q n1 n2 (fun _ z => nomatch z), n1, s.ne _ _ q n2⟩) (fun a xs q => seqT_stp M s q) (fun a q n1 n2 => ⟨s.keep _ _ q n1 n2 (fun _ z => nomatch z), n1, s.ne _ _ q n2⟩) ds vs h
structure LRs (K : PySem.W.Frag) (H : Hp) (m l : Addr) (n : Nat) (C pS : Addr) (xs : List V) (ys : List (Str × Int)) (pP : Addr) (ps : List V) (ds : List PyData) (pW : Addr) (zs : List Str) (pE : Addr) (es : List V) (fs : List PyData) (pF : Addr) (us : List Str) (x dx y dy : Addr) (vM vN : V) : Prop where
  M : Mch H m l n
  so : SetOk ys
  s : TupAt H pS xs
  sd : DqAll K H m l xs (prD ys)
  p : TupAt H pP ps
  pd : DqAll K H m l ps ds
  pl : ∀ d ∈ ds, plD ys (ds.length : Int) d
  d1 : 1 ≤ ds.length
  d16 : ds.length ≤ 16
  w : TupAt H pW (zs.map V.str)
  lz : zs.length = ys.length
  hz : ∀ z ∈ zs, z ∈ (["live", "met", "begin"] : List Str)
  e : TupAt H pE es
  ed : DqAll K H m l es fs
  el : ∀ d ∈ fs, plD ys (fs.length : Int) d
  e1 : 1 ≤ fs.length
  e16 : fs.length ≤ 16
  f : TupAt H pF (us.map V.str)
  lu : us.length = ys.length
  hu : ∀ z ∈ us, z ∈ (["live", "met", "begin"] : List Str)
  one : H x = some (.ins C dx (reqF (.ref pS) (.ref pP) vM))
  vm : Dq K H m l vM (.tuple (zs.map .str))
  two : H y = some (.ins C dy (reqF (.ref pS) (.ref pE) vN))
  vn : Dq K H m l vN (.tuple (us.map .str))
theorem pl_goodK {qs : List (Str × Int)} {n : Int} {d : PyData} (so : SetOk qs) (hn : n ≤ 16) (p : plD qs n d) : Gd big 460 2 d := by
  rcases p with rfl | ⟨z, r, rfl, hz, h0, h1⟩ | ⟨q, hq, ns, rfl, hl, hx⟩
  · exact end_good
  · exact do_good (nmOk.ok hz) h0 (by omega)
  · exact ask_good (nmOk.ok (so.nm q hq)) (fun x h => ⟨(hx x h).1, by have := (hx x h).2; omega⟩) (by have := (so.most q hq).2; omega)
theorem all_goodK : ∀ {l : List PyData}, (∀ d ∈ l, Gd big 460 2 d) → Gl' big (461 * l.length) 2 l
  | [], _ => ⟨(fun d h => nomatch h), Nat.le_refl _, (fun d h => nomatch h)⟩
  | d :: l, h => by
    have g := (Gl'.one (h d (List.mem_cons_self ..))).app (all_goodK fun x hx => h x (List.mem_cons_of_mem _ hx))
    exact g.mono (Nat.le_refl _) (by rw [List.length_cons]; omega) (Nat.le_refl _)
theorem pls_goodK {qs : List (Str × Int)} {l : List PyData} (so : SetOk qs) (hl : l.length ≤ 16) (h : ∀ d ∈ l, plD qs (l.length : Int) d) : Gd big 10000 3 (.tuple l) :=
  (Gd.tup (all_goodK fun d hd => pl_goodK so (by omega) (h d hd))).mono (Nat.le_refl _) (by omega) (by omega)
theorem pl_noDi {qs : List (Str × Int)} {n : Int} {d : PyData} (p : plD qs n d) : noDi d = true := by
  rcases p with rfl | ⟨z, r, rfl, hz, h0, h1⟩ | ⟨q, hq, ns, rfl, hl, hx⟩
  · rfl
  · rfl
  · have : noDi (.tuple (ns.map PyData.int)) = true := noDi_all fun x hx => by
      obtain ⟨y, _, rfl⟩ := List.mem_map.mp hx
      rfl
    show (noDi (.str "ask") && (noDi (.str q.1) && (noDi (.tuple (ns.map PyData.int)) && true))) = true
    rw [this]; rfl
theorem pls_noDi {qs : List (Str × Int)} {l : List PyData} (h : ∀ d ∈ l, plD qs (l.length : Int) d) : noDi (.tuple l) = true := noDi_all fun x hx => pl_noDi (h x hx)
section
variable {K : PySem.W.Frag} {H H' : Hp} {m l l' : Addr} {n n' : Nat} {C CM pS : Addr} {xs : List V} {ys : List (Str × Int)} {pP : Addr} {ps : List V} {ds : List PyData} {pW : Addr} {zs : List Str} {pE : Addr} {es : List V} {fs : List PyData} {pF : Addr} {us : List Str} {x dx y dy : Addr} {vM vN : V}
theorem LRs.ext (e : ExtN H H') (T : LRs K H m l n C pS xs ys pP ps ds pW zs pE es fs pF us x dx y dy vM vN) : LRs K H' m l n C pS xs ys pP ps ds pW zs pE es fs pF us x dx y dy vM vN :=
  ⟨Mch.ext e T.M, T.so, T.s.ext e, DqAll.ext e T.sd, T.p.ext e, DqAll.ext e T.pd, T.pl, T.d1, T.d16, T.w.ext e, T.lz, T.hz, T.e.ext e, DqAll.ext e T.ed, T.el, T.e1, T.e16, T.f.ext e, T.lu, T.hu, e _ _ T.one (fun _ z => nomatch z), Dq.ext e T.vm, e _ _ T.two (fun _ z => nomatch z), Dq.ext e T.vn⟩
theorem LRs.stp (s : Stp m l l' H H') (M' : Mch H' m l' n') (T : LRs K H m l n C pS xs ys pP ps ds pW zs pE es fs pF us x dx y dy vM vN) : LRs K H' m l' n' C pS xs ys pP ps ds pW zs pE es fs pF us x dx y dy vM vN :=
  ⟨M', T.so, T.s.stp T.M s, DqAll.stp T.M s T.sd, T.p.stp T.M s, DqAll.stp T.M s T.pd, T.pl, T.d1, T.d16, T.w.stp T.M s, T.lz, T.hz, T.e.stp T.M s, DqAll.stp T.M s T.ed, T.el, T.e1, T.e16, T.f.stp T.M s, T.lu, T.hu,
    s.keep _ _ T.one (T.M.nm T.one fun _ z => nomatch z) (T.M.nl T.one fun _ z => nomatch z) (fun _ z => nomatch z), Dq.stp T.M s T.vm, s.keep _ _ T.two (T.M.nm T.two fun _ z => nomatch z) (T.M.nl T.two fun _ z => nomatch z) (fun _ z => nomatch z), Dq.stp T.M s T.vn⟩
theorem LRs.dS (T : LRs K H m l n C pS xs ys pP ps ds pW zs pE es fs pF us x dx y dy vM vN) : Dq K H m l (.ref pS) (.tuple (prD ys)) := .tup T.s.seqT T.sd
theorem LRs.dP (T : LRs K H m l n C pS xs ys pP ps ds pW zs pE es fs pF us x dx y dy vM vN) : Dq K H m l (.ref pP) (.tuple ds) := .tup T.p.seqT T.pd
theorem LRs.dE (T : LRs K H m l n C pS xs ys pP ps ds pW zs pE es fs pF us x dx y dy vM vN) : Dq K H m l (.ref pE) (.tuple fs) := .tup T.e.seqT T.ed
theorem LRs.dW (T : LRs K H m l n C pS xs ys pP ps ds pW zs pE es fs pF us x dx y dy vM vN) : Dq K H m l (.ref pW) (.tuple (zs.map .str)) := .tup T.w.seqT (strs_dq zs)
theorem LRs.dF (T : LRs K H m l n C pS xs ys pP ps ds pW zs pE es fs pF us x dx y dy vM vN) : Dq K H m l (.ref pF) (.tuple (us.map .str)) := .tup T.f.seqT (strs_dq us)
/-- modes put in place of a request's -/
theorem LRs.withM {v : V} {d : PyData} {Qc : VK} {Ec : XK} (T : LRs K H m l n C pS xs ys pP ps ds pW zs pE es fs pF us x dx y dy vM vN) (hd : Dq K H m l v d)
    (qe : ∀ u, modesV ys.length d = some u → ∀ e H', H e = none → Same H H' → H' e = some (.xd [("place", u)]) → Ec (.ref CM) (some e) H')
    (q : modesV ys.length d = none → ∀ x' dx' v3 H', Same H H' → H x' = none → H' x' = some (.ins C dx' (reqF (.ref pS) (.ref pP) v3)) → Dq K H' m l v3 d → Qc (.ref x') H') : spWith K C CM [.ref x, v] H Qc Ec :=
  ⟨m, l, x, dx, pS, xs, ys, .ref pP, vM, v, .tuple ds, d, rfl, T.one, T.so, T.s.seqT, T.sd, T.dP, (pls_goodK T.so T.d16 T.pl).mono (Nat.le_refl _) (by decide) (Nat.le_refl _), places_no T.so.nodup T.d1 T.d16 T.pl, hd, qe, q⟩
/-- three fields told are the same -/
theorem LRs.ne3 {p p2 : Addr} {v3 vW : V} {ws : List Str} {Q : VK} (T : LRs K H m l n C pS xs ys pP ps ds pW zs pE es fs pF us x dx y dy vM vN) (hp : H p = none) (hp2 : (upd H p (.lst [v3, .ref pP, .ref pS])) p2 = none) (h3 : Dq K H m l v3 (.tuple (ws.map .str))) (hW : Dq K H m l vW (.tuple (ws.map .str)))
    (lu : ws.length ≤ 3) (mu : ∀ z ∈ ws, z ∈ (["live", "met", "begin"] : List Str)) (q : Q (.bl false) (upd (upd H p (.lst [v3, .ref pP, .ref pS])) p2 (.lst [vW, .ref pP, .ref pS]))) :
    rNeD K (.ref p) (.ref p2) (upd (upd H p (.lst [v3, .ref pP, .ref pS])) p2 (.lst [vW, .ref pP, .ref pS])) Q := by
  have s1 : Same H (upd H p (.lst [v3, .ref pP, .ref pS])) := Same.upd hp
  have s2 : Same (upd H p (.lst [v3, .ref pP, .ref pS])) (upd (upd H p (.lst [v3, .ref pP, .ref pS])) p2 (.lst [vW, .ref pP, .ref pS])) := Same.upd hp2
  have s := s1.trans s2
  have n1 := T.M.ne hp
  have n2 := (T.M.same s1).ne hp2
  have g1 : Gd (10 ^ 31) 100000 3 (.tuple (ws.map .str)) := (words_goodK lu mu).mono (by decide) (by decide) (by decide)
  have g2 : Gd (10 ^ 31) 100000 3 (.tuple ds) := (pls_goodK T.so T.d16 T.pl).mono (by decide) (by decide) (Nat.le_refl _)
  have g3 : Gd (10 ^ 31) 100000 3 (.tuple (prD ys)) := (spots_goodK T.so).mono (Nat.le_refl _) (by decide) (by decide)
  have dS := Dq.same s _ _ T.dS
  have dP := Dq.same s _ _ T.dP
  refine ne_self (m := m) (l := l) (d := .list [.tuple (ws.map .str), .tuple ds, .tuple (prD ys)]) (.lst (s2 _ _ upd_same) n1.1 n1.2 (.cons (Dq.same s _ _ h3) (.cons dP (.cons dS .nil)))) (.lst upd_same n2.1 n2.2 (.cons (Dq.same s _ _ hW) (.cons dP (.cons dS .nil))))
    (Gd.lst ((Gl'.one g1).app ((Gl'.one g2).app (Gl'.one g3)))) ?_ (by decide) q
  show noDiAll [PyData.tuple (ws.map .str), .tuple ds, .tuple (prD ys)] = true
  simp only [noDiAll, strs_noDiK, prs_noDiK, pls_noDi T.pl, Bool.and_true, Bool.true_and]
end
section
variable {P : Program} {w : World} {K : PySem.W.Frag} {mg : Str → Option Value} {base : Heap} {C CM CI fKp fTo f c Pk Pl : Addr} {fdTo : FuncData} {s : Shared} {H0 : Hp} {Eb : XK}
theorem law_end (RC : ReqC K C) (hr : Room 13 (callerA.deeper (envOfC "law" (defScope sLaw) s.heap.objs.size f (.ref c)))) :
    ∃ t, PSs (cxOf CX0 P w K mg base NL "law" (defScope sLaw) f (.ref c) callerA [] s H0 Eb).nox (bTurn.drop 12) t ∧ ∀ (D : Ends) (H1 : Hp) (a m l : Addr) (n : Nat) (pS : Addr) (xs : List V) (ys : List (Str × Int)) (pP : Addr) (ps : List V) (ds : List PyData) (pW : Addr) (zs : List Str) (pE : Addr) (es : List V) (fs : List PyData) (pF : Addr) (us : List Str) (x dx y dy : Addr) (vM vN : V) (v2 v10 v11 v12 v13 : Option V),
      LRs K H1 m l n C pS xs ys pP ps ds pW zs pE es fs pF us x dx y dy vM vN → Tabs (tabsK Pk Pl) H1 →
      (∀ (H2 : Hp), ExtN H1 H2 → Tabs (tabsK Pk Pl) H2 → D.nx [some (.ref a), some (.ref m), v2, some (.ref pS), some (.ref pP), some (.ref pW), some (.ref pE), some (.ref pF), some (.ref x), some (.ref y), v10, v11, v12, v13] H2) →
      t D [some (.ref a), some (.ref m), v2, some (.ref pS), some (.ref pP), some (.ref pW), some (.ref pE), some (.ref pF), some (.ref x), some (.ref y), v10, v11, v12, v13] H1 := by
  refine ⟨_, pss_one (ps_if (pt_cmpR (show OpR _ (compareOp .NotEq) (rNeD K) from op_neD (by exact hr.units)) (pe_lst (pa_cons (pe_fld (pv 8) rfl) (pa_cons (pe_fld (pv 8) rfl) (pa_cons (pe_fld (pv 8) rfl) pa_nil)))) (pe_lst (pa_cons (pv 3) (pa_cons (pv 4) (pa_cons (pv 5) pa_nil)))) (nomark _)) (pss_one (ps_ret pe_bl)) pss_nil), ?_⟩
  intro D H1 a m l n pS xs ys pP ps ds pW zs pE es fs pF us x dx y dy vM vN v2 v10 v11 v12 v13 T tb nx
  have l3 := T.so.len3
  have lz := T.lz
  refine ⟨_, rfl, x, C, dx, _, _, rfl, T.one, RC.cl, RC.nS, rfl, _, rfl, x, C, dx, _, _, rfl, T.one, RC.cl, RC.nP, rfl, _, rfl, x, C, dx, _, _, rfl, T.one, RC.cl, RC.nM, rfl, (by show 3 ≤ sizeLine; decide), fun p hp => ?_⟩
  refine ⟨_, rfl, _, rfl, _, rfl, (by show 3 ≤ sizeLine; decide), fun p2 hp2 => ?_⟩
  have s1 : Same H1 (upd H1 p (.lst [.ref pS, .ref pP, vM])) := Same.upd hp
  have s2 : Same (upd H1 p (.lst [.ref pS, .ref pP, vM])) (upd (upd H1 p (.lst [.ref pS, .ref pP, vM])) p2 (.lst [.ref pS, .ref pP, .ref pW])) := Same.upd hp2
  have s12 := s1.trans s2
  have n1 := T.M.ne hp
  have n2 := (T.M.same s1).ne hp2
  have g1 : Gd (10 ^ 31) 100000 3 (.tuple (zs.map .str)) := (words_goodK (by omega) T.hz).mono (by decide) (by decide) (by decide)
  have g2 : Gd (10 ^ 31) 100000 3 (.tuple ds) := (pls_goodK T.so T.d16 T.pl).mono (by decide) (by decide) (Nat.le_refl _)
  have g3 : Gd (10 ^ 31) 100000 3 (.tuple (prD ys)) := (spots_goodK T.so).mono (Nat.le_refl _) (by decide) (by decide)
  have dS := Dq.same s12 _ _ T.dS
  have dP := Dq.same s12 _ _ T.dP
  refine ne_self (m := m) (l := l) (d := .list [.tuple (prD ys), .tuple ds, .tuple (zs.map .str)]) (.lst (s2 _ _ upd_same) n1.1 n1.2 (.cons dS (.cons dP (.cons (Dq.same s12 _ _ T.vm) .nil)))) (.lst upd_same n2.1 n2.2 (.cons dS (.cons dP (.cons (Dq.same s12 _ _ T.dW) .nil))))
    (Gd.lst ((Gl'.one g3).app ((Gl'.one g2).app (Gl'.one g1)))) ?_ (by decide) ⟨_, rfl, ifF rfl (nx _ (Same.toN s12) (Tabs.same tb s12))⟩
  show noDiAll [PyData.tuple (prD ys), .tuple ds, .tuple (zs.map .str)] = true
  simp only [noDiAll, strs_noDiK, prs_noDiK, pls_noDi T.pl, Bool.and_true, Bool.true_and]
end
end Ms
namespace Ms
open PySem PySem.Spec PyProof.Rows L2 LamX StX
/-! ### law k06: modes put in place, and what is refused -/
structure GW (P : Program) (w : World) (K : PySem.W.Frag) (mg : Str → Option Value) (base : Heap) (C CM fWm : Addr) (fdWm : FuncData) : Prop where
  ok : FnOk P w K mg base (L2.CX P w) 8 fWm fdWm ["self", "modes"] (spWith K C CM)
  mt : Meth K C "with_modes" fWm
  bd : Binds K fdWm ["self", "modes"] []
/-- v is no tuple of so many modes; u is what is told of it -/
inductive BadV (K : PySem.W.Frag) (H : Hp) (m l : Addr) (k : Nat) : V → PyData → V → PyData → Prop
  | other {v : V} {d : PyData} : Dq K H m l v d → (∀ ds, d ≠ .tuple ds) → BadV K H m l k v d .non .none
  | long {p : Addr} {ts : List Str} : SqT K H p (ts.map V.str) → ts.length ≠ k → BadV K H m l k (.ref p) (.tuple (ts.map .str)) .non .none
  | so {p : Addr} {ts : List Str} : SqT K H p (ts.map V.str) → ts.length = k → firstBad isMode 0 (ts.map .str) = some (k - 1) → BadV K H m l k (.ref p) (.tuple (ts.map .str)) (.int ((k : Int) - 1)) (.int ((k : Int) - 1))
section
variable {K : PySem.W.Frag} {H H' : Hp} {m l : Addr} {k : Nat} {v u : V} {d du : PyData}
theorem BadV.ext (e : ExtN H H') (h : BadV K H m l k v d u du) : BadV K H' m l k v d u du := by
  cases h with
  | other h n => exact .other (Dq.ext e h) n
  | long h n => exact .long (ExtN.seqT e h) n
  | so h n f => exact .so (ExtN.seqT e h) n f
theorem BadV.dq (h : BadV K H m l k v d u du) : Dq K H m l v d := by
  cases h with
  | other h n => exact h
  | long h n => exact .tup h (strs_dq _)
  | so h n f => exact .tup h (strs_dq _)
theorem BadV.told (h : BadV K H m l k v d u du) (hk : 1 ≤ k) : modesV k d = some u := by
  cases h with
  | other h n =>
    cases d with
    | tuple ds => exact absurd rfl (n ds)
    | _ => rfl
  | @long p ts h n =>
    show (if (ts.map PyData.str).length = k then _ else some V.non) = _
    rw [List.length_map, if_neg n]
  | @so p ts h n f =>
    show (if (ts.map PyData.str).length = k then (firstBad isMode 0 (ts.map PyData.str)).map fun p => V.int (p : Nat) else some V.non) = _
    rw [List.length_map, if_pos n, f]
    show some (V.int ((k - 1 : Nat) : Int)) = _
    congr 2
    omega
theorem BadV.ud (h : BadV K H m l k v d u du) {G : Hp} : Dq K G m l u du := by
  cases h with
  | other h n => exact .non
  | long h n => exact .non
  | so h n f => exact .int _
theorem BadV.good (h : BadV K H m l k v d u du) (hk : k ≤ 3) : Gd big 1000 2 (.tuple [.str "modes", du]) ∧ noDi (.tuple [.str "modes", du]) = true := by
  have a1 : Gd big 16 0 (.str "modes") := Gd.str ⟨by decide, by decide⟩
  have a2 : Gd big 104 0 .none := ⟨by decide, by decide, by decide⟩
  cases h with
  | other h n => exact ⟨(Gd.tup ((Gl'.one a1).app (Gl'.one a2))).mono (Nat.le_refl _) (by decide) (by decide), rfl⟩
  | long h n => exact ⟨(Gd.tup ((Gl'.one a1).app (Gl'.one a2))).mono (Nat.le_refl _) (by decide) (by decide), rfl⟩
  | so h n f =>
    have a3 : Gd big 104 0 (.int ((k : Int) - 1)) := Gd.int (by show ((k : Int) - 1).natAbs ≤ 10 ^ 30; omega) (by decide)
    exact ⟨(Gd.tup ((Gl'.one a1).app (Gl'.one a3))).mono (Nat.le_refl _) (by decide) (by decide), rfl⟩
end
theorem cut_last {zs : List Str} (h1 : 1 ≤ zs.length) (h3 : zs.length ≤ 3) : cutV (zs.map V.str) none (some (-1)) = (zs.dropLast).map V.str := by
  match zs, h1, h3 with
  | [a], _, _ => rfl
  | [a, b], _, _ => rfl
  | [a, b, c], _, _ => rfl
theorem so_bad {zs : List Str} (h1 : 1 ≤ zs.length) (h3 : zs.length ≤ 3) (hz : ∀ z ∈ zs, z ∈ (["live", "met", "begin"] : List Str)) : firstBad isMode 0 ((zs.dropLast ++ [("so" : Str)]).map PyData.str) = some (zs.length - 1) := by
  have so : isMode (.str "so") = false := by decide
  match zs, h1, h3, hz with
  | [a], _, _, hz =>
    show (if isMode (.str "so") = true then firstBad isMode 1 [] else some 0) = some 0
    rw [so]; rfl
  | [a, b], _, _, hz =>
    show (if isMode (.str a) = true then (if isMode (.str "so") = true then firstBad isMode 2 [] else some 1) else some 0) = some 1
    rw [if_pos (mode_is (hz a (by simp))), so]; rfl
  | [a, b, c], _, _, hz =>
    show (if isMode (.str a) = true then (if isMode (.str b) = true then (if isMode (.str "so") = true then firstBad isMode 3 [] else some 2) else some 1) else some 0) = some 2
    rw [if_pos (mode_is (hz a (by simp))), if_pos (mode_is (hz b (by simp))), so]; rfl
section
variable {P : Program} {w : World} {K : PySem.W.Frag} {mg : Str → Option Value} {base : Heap} {C CM CI fKp fWm fTo fN f c Pk Pl : Addr} {fdTo fdN fdWm : FuncData} {s : Shared} {H0 : Hp} {Eb : XK}
theorem law_so {tT : TS} (G : G6 mg fTo C CM CI) (X6 : C6 K C CM CI fKp) (W : GW P w K mg base C CM fWm fdWm) (FT : Fun K "_law_told" "_law_told" sTold fTo fdTo) (bT : Binds K fdTo ["call"] []) (TB : TabB base mg c Pl) (nP : Pk ≠ Pl)
    (hr : Room 13 (callerA.deeper (envOfC "law" (defScope sLaw) s.heap.objs.size f (.ref c))))
    (dT : PSs (cxOf CX0 P w K mg base NL "law" (defScope sLaw) f (.ref c) callerA [] s H0 Eb).nox (bTurn.drop 12) tT)
    (zT : ∀ (D : Ends) (H1 : Hp) (a m l : Addr) (n : Nat) (pS : Addr) (xs : List V) (ys : List (Str × Int)) (pP : Addr) (ps : List V) (ds : List PyData) (pW : Addr) (zs : List Str) (pE : Addr) (es : List V) (fs : List PyData) (pF : Addr) (us : List Str) (x dx y dy : Addr) (vM vN  : V) (v2 v10 v11 v12 v13 : Option V),
      LRs K H1 m l n C pS xs ys pP ps ds pW zs pE es fs pF us x dx y dy vM vN → Tabs (tabsK Pk Pl) H1 →
      (∀ (H2 : Hp), ExtN H1 H2 → Tabs (tabsK Pk Pl) H2 → D.nx [some (.ref a), some (.ref m), v2, some (.ref pS), some (.ref pP), some (.ref pW), some (.ref pE), some (.ref pF), some (.ref x), some (.ref y), v10, v11, v12, v13] H2) →
      tT D [some (.ref a), some (.ref m), v2, some (.ref pS), some (.ref pP), some (.ref pW), some (.ref pE), some (.ref pF), some (.ref x), some (.ref y), v10, v11, v12, v13] H1) :
    ∃ t, PSs (cxOf CX0 P w K mg base NL "law" (defScope sLaw) f (.ref c) callerA [] s H0 Eb).nox (bTurn.drop 11) t ∧ ∀ (D : Ends) (H1 : Hp) (a m l : Addr) (n : Nat) (pS : Addr) (xs : List V) (ys : List (Str × Int)) (pP : Addr) (ps : List V) (ds : List PyData) (pW : Addr) (zs : List Str) (pE : Addr) (es : List V) (fs : List PyData) (pF : Addr) (us : List Str) (x dx y dy : Addr) (vM vN v10 u : V) (d du : PyData) (pD : Addr) (v2 v12 v13 : Option V),
      LRs K H1 m l n C pS xs ys pP ps ds pW zs pE es fs pF us x dx y dy vM vN → BadV K H1 m l ys.length v10 d u du → H1 pD = some (.tup [.str "modes", u]) → Tabs (tabsK Pk Pl) H1 →
      (∀ (H2 : Hp), ExtN H1 H2 → Tabs (tabsK Pk Pl) H2 → D.nx [some (.ref a), some (.ref m), v2, some (.ref pS), some (.ref pP), some (.ref pW), some (.ref pE), some (.ref pF), some (.ref x), some (.ref y), some v10, some (.ref pD), v12, v13] H2) →
      t D [some (.ref a), some (.ref m), v2, some (.ref pS), some (.ref pP), some (.ref pW), some (.ref pE), some (.ref pF), some (.ref x), some (.ref y), some v10, some (.ref pD), v12, v13] H1 := by
  obtain ⟨oc, od, kV, doc, pm, an, cdv, ct, osl, efd, lk, hcd⟩ := FT.ex
  subst efd
  have hr10 : Room 10 (callerA.deeper (envOfC "law" (defScope sLaw) s.heap.objs.size f (.ref c))) := hr.mono (by decide)
  have hmem : (Pl, lamQ) ∈ tabsK Pk Pl := List.mem_cons_of_mem _ (List.mem_singleton.mpr rfl)
  have hu : ∀ p ∈ tabsK Pk Pl, p.1 = Pl → p.2 = lamQ := fun p hp e => by
    rcases List.mem_cons.mp hp with rfl | hp
    · exact absurd e nP
    · rw [List.mem_singleton.mp hp]
  refine ⟨_, pss_cons (ps_if (pt_cmpR (show OpR _ (compareOp .NotEq) (rNeD K) from op_neD (by exact hr.units))
      (pe_lamcall (T := tabsK Pk Pl) (TT := TT6 K C CM CI) (c := c) (P := Pl) (k := 8) (t := fun E => tMeth C "with_modes" (spWith K C CM) [] E (tVar 8) (tCons (tVar 10) tNil)) (by rfl) G.told FT.kp lk hcd bT scTo rfl (Or.inl rfl)
        (told_req X6.RC G.bm G.mi X6.MM X6.IM X6.II X6.RM X6.RI) TB rfl hmem hu hr10 (lamS_by (sc := defScope sLaw) (by decide +kernel)) rfl (fun _ _ _ _ _ => rfl)
        (fun A outer s H E f c' hr3 => pe_meth (pv 8) X6.RC.cl W.mt W.ok hr3 W.bd .nil (passes_call (takes_of rfl rfl rfl rfl) fun _ _ _ _ h => h) (pa_cons (pv 10) pa_nil)))
      (pv 11) (nomark _)) (pss_one (ps_ret pe_bl)) pss_nil) dT, ?_⟩
  intro D H1 a m l n pS xs ys pP ps ds pW zs pE es fs pF us x dx y dy vM vN v10 u d du pD v2 v12 v13 T B gD tb nx
  have l1 := T.so.len1
  have l3 := T.so.len3
  refine ⟨tb, fun H2 e2 t2 H3 Ec Qc s3 hM hI hQ => ?_⟩
  have e3 : ExtN H1 H3 := e2.trans (Same.toN s3)
  have t3 := Tabs.same t2 s3
  have T3 := T.ext e3
  have B3 := B.ext e3
  refine ⟨_, rfl, x, dx, _, rfl, T3.one, rfl, _, rfl, ?_⟩
  refine T3.withM B3.dq (fun u' hu' e H4 h1 h2 h3 => ?_) (fun hn => by rw [B3.told l1] at hn; cases hn)
  obtain rfl : u' = u := by rw [B3.told l1] at hu'; exact (Option.some.inj hu').symm
  refine hM e _ H4 h3 fun p hp => ⟨_, rfl, ?_⟩
  have s4 : Same H4 (upd H4 p (.tup [.str "modes", u'])) := Same.upd hp
  have e5 : ExtN H1 (upd H4 p (.tup [.str "modes", u'])) := e3.trans (Same.toN (h2.trans s4))
  obtain ⟨g, nd⟩ := B.good l3
  refine ne_self (m := m) (l := l) (d := .tuple [.str "modes", du]) (.tup (.inl (.inl upd_same)) (.cons (.str _) (.cons B.ud .nil))) (.tup (.inl (.inl (e5 _ _ gD (fun _ z => nomatch z)))) (.cons (.str _) (.cons B.ud .nil))) g nd (by decide) ⟨_, rfl, ifF rfl ?_⟩
  exact zT D _ a m l n pS xs ys pP ps ds pW zs pE es fs pF us x dx y dy vM vN v2 _ _ v12 v13 (T.ext e5) (Tabs.same t3 (h2.trans s4)) fun H6 e6 t6 => nx H6 (e5.trans e6) t6
theorem law_due {tT : TS} (T0 : Txt mg) (hisi : mg "isinstance" = none) (htup : mg "tuple" = none)
    (hr : Room 13 (callerA.deeper (envOfC "law" (defScope sLaw) s.heap.objs.size f (.ref c))))
    (dT : PSs (cxOf CX0 P w K mg base NL "law" (defScope sLaw) f (.ref c) callerA [] s H0 Eb).nox (bTurn.drop 11) tT)
    (zT : ∀ (D : Ends) (H1 : Hp) (a m l : Addr) (n : Nat) (pS : Addr) (xs : List V) (ys : List (Str × Int)) (pP : Addr) (ps : List V) (ds : List PyData) (pW : Addr) (zs : List Str) (pE : Addr) (es : List V) (fs : List PyData) (pF : Addr) (us : List Str) (x dx y dy : Addr) (vM vN v10 u : V) (d du : PyData) (pD : Addr) (v2 v12 v13 : Option V),
      LRs K H1 m l n C pS xs ys pP ps ds pW zs pE es fs pF us x dx y dy vM vN → BadV K H1 m l ys.length v10 d u du → H1 pD = some (.tup [.str "modes", u]) → Tabs (tabsK Pk Pl) H1 →
      (∀ (H2 : Hp), ExtN H1 H2 → Tabs (tabsK Pk Pl) H2 → D.nx [some (.ref a), some (.ref m), v2, some (.ref pS), some (.ref pP), some (.ref pW), some (.ref pE), some (.ref pF), some (.ref x), some (.ref y), some v10, some (.ref pD), v12, v13] H2) →
      tT D [some (.ref a), some (.ref m), v2, some (.ref pS), some (.ref pP), some (.ref pW), some (.ref pE), some (.ref pF), some (.ref x), some (.ref y), some v10, some (.ref pD), v12, v13] H1) :
    ∃ t, PSs (cxOf CX0 P w K mg base NL "law" (defScope sLaw) f (.ref c) callerA [] s H0 Eb).nox (bTurn.drop 10) t ∧ ∀ (D : Ends) (H1 : Hp) (a m l : Addr) (n : Nat) (pS : Addr) (xs : List V) (ys : List (Str × Int)) (pP : Addr) (ps : List V) (ds : List PyData) (pW : Addr) (zs : List Str) (pE : Addr) (es : List V) (fs : List PyData) (pF : Addr) (us : List Str) (x dx y dy : Addr) (vM vN v10 u : V) (d du : PyData) (v2 v11 v12 v13 : Option V),
      LRs K H1 m l n C pS xs ys pP ps ds pW zs pE es fs pF us x dx y dy vM vN → BadV K H1 m l ys.length v10 d u du → Tabs (tabsK Pk Pl) H1 →
      (∀ (v11 : Option V) (H2 : Hp), ExtN H1 H2 → Tabs (tabsK Pk Pl) H2 → D.nx [some (.ref a), some (.ref m), v2, some (.ref pS), some (.ref pP), some (.ref pW), some (.ref pE), some (.ref pF), some (.ref x), some (.ref y), some v10, v11, v12, v13] H2) →
      t D [some (.ref a), some (.ref m), v2, some (.ref pS), some (.ref pP), some (.ref pW), some (.ref pE), some (.ref pF), some (.ref x), some (.ref y), some v10, v11, v12, v13] H1 := by
  refine ⟨_, pss_cons (ps_set (i := 11) scL.nd rfl (by first | exact Or.inl rfl | exact Or.inr rfl) (pe_tup (pa_cons pe_str (pa_cons (pe_ifExp (PW.pt (pw_and (pt_val (pe_callB call_isi (by rfl) hisi PyProof.Rows.boot_isinstance (pa_cons (pv 10) (pa_cons (pe_bltn (v := .ty "tuple") (u := .type "tuple") (by rfl) htup (by decide +kernel) rfl) pa_nil))))
        (pw_and1 (pt_cmpR op_eq (pe_callB call_len (by rfl) T0.len PySem.boot_len (pa_cons (pv 10) pa_nil)) (pe_callB call_len (by rfl) T0.len PySem.boot_len (pa_cons (pv 5) pa_nil)) (nomark _)))))
        (pe_op op_sub (pe_callB call_len (by rfl) T0.len PySem.boot_len (pa_cons (pv 5) pa_nil)) pe_int) pe_non) pa_nil)))) dT, ?_⟩
  intro D H1 a m l n pS xs ys pP ps ds pW zs pE es fs pF us x dx y dy vM vN v10 u d du v2 v11 v12 v13 T B tb nx
  have l1 := T.so.len1
  have l3 := T.so.len3
  have lz := T.lz
  have lzm : (zs.map V.str).length = ys.length := by rw [List.length_map, lz]
  have fin : ∀ p, H1 p = none → tT D [some (.ref a), some (.ref m), v2, some (.ref pS), some (.ref pP), some (.ref pW), some (.ref pE), some (.ref pF), some (.ref x), some (.ref y), some v10, some (.ref p), v12, v13] (upd H1 p (.tup [.str "modes", u])) := fun p hp => by
    have s1 : Same H1 (upd H1 p (.tup [.str "modes", u])) := Same.upd hp
    exact zT D _ a m l n pS xs ys pP ps ds pW zs pE es fs pF us x dx y dy vM vN v10 u d du p v2 v12 v13 (T.ext (Same.toN s1)) (B.ext (Same.toN s1)) upd_same (Tabs.same tb s1) fun H2 e2 t2 => nx _ H2 ((Same.toN s1).trans e2) t2
  refine ⟨_, rfl, v10, .ty "tuple", _, _, _, rfl, .ty _, B.dq.ty, isi_tup K d, _, rfl, ?_⟩
  cases B with
  | other hd nt =>
    cases d with
    | tuple ts => exact absurd rfl (nt ts)
    | _ => exact ifF rfl (ifF rfl ⟨(by show 2 ≤ sizeLine; decide), fun p hp => fin p hp⟩)
  | @long p0 ts h nl =>
    refine ifT rfl ?_
    refine ⟨_, rfl, .ref p0, (ts.map V.str).length, rfl, .inr ⟨_, h, rfl⟩, _, rfl, .ref pW, (zs.map V.str).length, rfl, .inr ⟨_, T.w.seqT, rfl⟩, rfl, _, rfl, ?_⟩
    have : decide (V.int (((ts.map V.str).length : Nat) : Int) = V.int (((zs.map V.str).length : Nat) : Int)) = false := by
      rw [decide_eq_false_iff_not, V.int.injEq, lzm, List.length_map]; omega
    exact ifF this ⟨(by show 2 ≤ sizeLine; decide), fun p hp => fin p hp⟩
  | @so p0 ts h el fb =>
    refine ifT rfl ?_
    refine ⟨_, rfl, .ref p0, (ts.map V.str).length, rfl, .inr ⟨_, h, rfl⟩, _, rfl, .ref pW, (zs.map V.str).length, rfl, .inr ⟨_, T.w.seqT, rfl⟩, rfl, _, rfl, ?_⟩
    have : decide (V.int (((ts.map V.str).length : Nat) : Int) = V.int (((zs.map V.str).length : Nat) : Int)) = true := by
      rw [decide_eq_true_eq, V.int.injEq, lzm, List.length_map]; omega
    refine ifT this ⟨_, rfl, .ref pW, (zs.map V.str).length, rfl, .inr ⟨_, T.w.seqT, rfl⟩, _, _, rfl, rfl, (by show 2 ≤ sizeLine; decide), fun p hp => ?_⟩
    rw [lzm]
    exact fin p hp
end
end Ms
namespace Ms
open PySem PySem.Spec PyProof.Rows L2 LamX StX
/-! ### law k06: the turn from its ninth statement on -/
section
variable {P : Program} {w : World} {K : PySem.W.Frag} {mg : Str → Option Value} {base : Heap} {C CM CI fKp fWm fTo fN f c Pk Pl : Addr} {fdTo fdN fdWm : FuncData} {s : Shared} {H0 : Hp} {Eb : XK}
theorem law_nine {tT : TS} (T0 : Txt mg) (hnext : mg "_law_next" = some (.ref fN)) (FN : Fun K "_law_next" "_law_next" sNext fN fdN) (bN : Binds K fdN ["m", "many"] [])
    (hr : Room 13 (callerA.deeper (envOfC "law" (defScope sLaw) s.heap.objs.size f (.ref c))))
    (dT : PSs (cxOf CX0 P w K mg base NL "law" (defScope sLaw) f (.ref c) callerA [] s H0 Eb).nox (bTurn.drop 10) tT)
    (zT : ∀ (D : Ends) (H1 : Hp) (a m l : Addr) (n : Nat) (pS : Addr) (xs : List V) (ys : List (Str × Int)) (pP : Addr) (ps : List V) (ds : List PyData) (pW : Addr) (zs : List Str) (pE : Addr) (es : List V) (fs : List PyData) (pF : Addr) (us : List Str) (x dx y dy : Addr) (vM vN v10 u : V) (d du : PyData) (v2 v11 v12 v13 : Option V),
      LRs K H1 m l n C pS xs ys pP ps ds pW zs pE es fs pF us x dx y dy vM vN → BadV K H1 m l ys.length v10 d u du → Tabs (tabsK Pk Pl) H1 →
      (∀ (v11 : Option V) (H2 : Hp), ExtN H1 H2 → Tabs (tabsK Pk Pl) H2 → D.nx [some (.ref a), some (.ref m), v2, some (.ref pS), some (.ref pP), some (.ref pW), some (.ref pE), some (.ref pF), some (.ref x), some (.ref y), some v10, v11, v12, v13] H2) →
      tT D [some (.ref a), some (.ref m), v2, some (.ref pS), some (.ref pP), some (.ref pW), some (.ref pE), some (.ref pF), some (.ref x), some (.ref y), some v10, v11, v12, v13] H1) :
    ∃ t, PSs (cxOf CX0 P w K mg base NL "law" (defScope sLaw) f (.ref c) callerA [] s H0 Eb).nox (bTurn.drop 9) t ∧ ∀ (D : Ends) (H1 : Hp) (a m l : Addr) (n : Nat) (pS : Addr) (xs : List V) (ys : List (Str × Int)) (pP : Addr) (ps : List V) (ds : List PyData) (pW : Addr) (zs : List Str) (pE : Addr) (es : List V) (fs : List PyData) (pF : Addr) (us : List Str) (x dx y dy : Addr) (vM vN : V) (v2 v10 v11 v12 v13 : Option V),
      LRs K H1 m l n C pS xs ys pP ps ds pW zs pE es fs pF us x dx y dy vM vN → n < 500000 → Tabs (tabsK Pk Pl) H1 →
      (∀ (v10 v11 v13 : Option V) (l' : Addr) (H2 : Hp), Mch H2 m l' (n + 1) → Tabs (tabsK Pk Pl) H2 → D.nx [some (.ref a), some (.ref m), v2, some (.ref pS), some (.ref pP), some (.ref pW), some (.ref pE), some (.ref pF), some (.ref x), some (.ref y), v10, v11, v12, v13] H2) →
      t D [some (.ref a), some (.ref m), v2, some (.ref pS), some (.ref pP), some (.ref pW), some (.ref pE), some (.ref pF), some (.ref x), some (.ref y), v10, v11, v12, v13] H1 := by
  have GN : FnOk P w K mg base CX0 1 fN fdN ["m", "many"] spNext := ok_next FN T0
  have hr1 : Room 1 (callerA.deeper (envOfC "law" (defScope sLaw) s.heap.objs.size f (.ref c))) := hr.mono (by decide)
  refine ⟨_, pss_cons (ps_set (i := 10) scL.nd rfl (by first | exact Or.inl rfl | exact Or.inr rfl) (pe_ix (show IxR _ (rIxL K) from ix_list) (pe_lst (pa_cons pe_int (pa_cons pe_non (pa_cons (pe_op op_catA (pv 5) (pe_tup (pa_cons pe_str pa_nil)))
      (pa_cons (pe_op op_catA (pe_slice sl_tupA (pv 5) po_none (po_some (pe_un un_neg pe_int))) (pe_tup (pa_cons pe_str pa_nil))) (pa_cons (pe_callTy call_list_of (by rfl) T0.list (by decide +kernel) (pa_cons (pv 5) pa_nil)) pa_nil))))))
      (pe_call GN hr1 (by rfl) hnext FN.kp bN .nil pass0 (pa_cons (pv 1) (pa_cons pe_int pa_nil))) (fun _ _ => rfl))) dT, ?_⟩
  intro D H1 a m l n pS xs ys pP ps ds pW zs pE es fs pF us x dx y dy vM vN v2 v10 v11 v12 v13 T hn tb nx
  have l1 := T.so.len1
  have l3 := T.so.len3
  have lz := T.lz
  refine ⟨_, rfl, (by show 1 ≤ sizeLine; decide), fun p1 hp1 => ?_⟩
  have sa : Same H1 (upd H1 p1 (.tup [.str "met"])) := Same.upd hp1
  refine catA_any (Same.seqT sa T.w.seqT) (.inl (.inl upd_same)) (Nat.le_of_lt (small1000 (by rw [List.length_map]; show zs.length + 1 ≤ 1000; omega))) fun p2 H2 sb c2 => ?_
  have s2 := sa.trans sb
  refine ⟨_, rfl, _, rfl, _, rfl, slA_any (Same.seqT s2 T.w.seqT) fun p3 H3 sc c3 => ?_⟩
  rw [show (-1 : Int) = -1 from rfl, cut_last (by omega) (by omega)] at c3
  have s3 := s2.trans sc
  refine ⟨(by show 1 ≤ sizeLine; decide), fun p4 hp4 => ?_⟩
  have sd : Same H3 (upd H3 p4 (.tup [.str "so"])) := Same.upd hp4
  refine catA_any (Same.seqT sd c3) (.inl (.inl upd_same)) (Nat.le_of_lt (small1000 (by rw [List.length_map, List.length_dropLast]; show zs.length - 1 + 1 ≤ 1000; omega))) fun p5 H5 se c5 => ?_
  have s5 := (s3.trans sd).trans se
  have c2' := Same.seqT ((sc.trans sd).trans se) c2
  refine ⟨_, rfl, pW, _, rfl, .inr (Same.seqT s5 T.w.seqT), fun p6 hp6 => ?_⟩
  have sf : Same H5 (upd H5 p6 (.lst (zs.map V.str))) := Same.upd hp6
  have g6 : (upd H5 p6 (.lst (zs.map V.str))) p6 = some (.lst (zs.map V.str)) := upd_same
  have n6 := (T.M.same s5).ne hp6
  generalize upd H5 p6 (.lst (zs.map V.str)) = H6 at sf g6 ⊢
  have s6 := s5.trans sf
  have c26 := Same.seqT sf c2'
  have c56 := Same.seqT sf c5
  refine ⟨(by show 5 ≤ sizeLine; decide), fun F hF => ?_⟩
  have sg : Same H6 (upd H6 F (.lst [.int 5, .non, .ref p2, .ref p5, .ref p6])) := Same.upd hF
  have gF : (upd H6 F (.lst [.int 5, .non, .ref p2, .ref p5, .ref p6])) F = some (.lst [.int 5, .non, .ref p2, .ref p5, .ref p6]) := upd_same
  have nF := (T.M.same s6).ne hF
  generalize upd H6 F (.lst [.int 5, .non, .ref p2, .ref p5, .ref p6]) = H7 at sg gF ⊢
  have s7 := s6.trans sg
  have M7 := T.M.same s7
  have c27 := Same.seqT sg c26
  have c57 := Same.seqT sg c56
  have g67 := sg _ _ g6
  refine ⟨_, rfl, m, l, n, 5, rfl, M7, by omega, by decide, by decide, fun r l' H8 r0 r5 M8 f8 => ?_⟩
  have k8 := M7.step f8
  have st8 : Stp m l l' H7 H8 := Stp.ofK k8
  have T7 := T.ext (Same.toN s7)
  have T8 := T7.stp st8 M8
  have t8 : Tabs (tabsK Pk Pl) H8 := Tabs.fr M7 f8 (Tabs.same tb s7)
  have key : ∃ v10 u d du, atI ([.int 5, .non, .ref p2, .ref p5, .ref p6] : List V) r = some v10 ∧ BadV K H8 m l' ys.length v10 d u du := by
    obtain ⟨j, rfl⟩ : ∃ j : Nat, r = (j : Int) := ⟨r.toNat, by omega⟩
    have hj : j < 5 := by omega
    match j, hj with
    | 0, _ => exact ⟨_, _, _, _, rfl, .other (.int 5) (fun ds z => nomatch z)⟩
    | 1, _ => exact ⟨_, _, _, _, rfl, .other .non (fun ds z => nomatch z)⟩
    | 2, _ =>
      refine ⟨_, _, _, _, rfl, .long (ts := zs ++ [("met" : Str)]) ?_ ?_⟩
      · rw [List.map_append]; exact seqT_stp M7 st8 c27
      · rw [List.length_append, lz]; simp
    | 3, _ =>
      refine ⟨_, _, _, _, rfl, .so (ts := zs.dropLast ++ [("so" : Str)]) ?_ ?_ ?_⟩
      · rw [List.map_append]; exact seqT_stp M7 st8 c57
      · rw [List.length_append, List.length_dropLast, lz]; show ys.length - 1 + 1 = ys.length; omega
      · rw [so_bad (by omega) (by omega) T.hz, lz]
    | 4, _ => exact ⟨_, _, _, _, rfl, .other (.lst (ds := zs.map .str) (f8.keep _ _ g67 n6.1 n6.2) n6.1 (k8.ne _ _ g67 n6.2) (strs_dq zs)) (fun ds z => nomatch z)⟩
  obtain ⟨v10', u, d, du, hat, B⟩ := key
  refine ⟨F, _, r, v10', rfl, rfl, SqL.of (f8.keep _ _ gF nF.1 nF.2), hat, ?_⟩
  exact zT D H8 a m l' (n + 1) pS xs ys pP ps ds pW zs pE es fs pF us x dx y dy vM vN v10' u d du v2 v11 v12 v13 T8 B t8 fun v11' H9 e9 t9 => nx _ v11' v13 l' H9 (Mch.ext e9 M8) t9
theorem law_far {tT : TS} (G : G6 mg fTo C CM CI) (X6 : C6 K C CM CI fKp) (W : GW P w K mg base C CM fWm fdWm) (FT : Fun K "_law_told" "_law_told" sTold fTo fdTo) (bT : Binds K fdTo ["call"] []) (TB : TabB base mg c Pl) (nP : Pk ≠ Pl)
    (hr : Room 13 (callerA.deeper (envOfC "law" (defScope sLaw) s.heap.objs.size f (.ref c))))
    (dT : PSs (cxOf CX0 P w K mg base NL "law" (defScope sLaw) f (.ref c) callerA [] s H0 Eb).nox (bTurn.drop 9) tT)
    (zT : ∀ (D : Ends) (H1 : Hp) (a m l : Addr) (n : Nat) (pS : Addr) (xs : List V) (ys : List (Str × Int)) (pP : Addr) (ps : List V) (ds : List PyData) (pW : Addr) (zs : List Str) (pE : Addr) (es : List V) (fs : List PyData) (pF : Addr) (us : List Str) (x dx y dy : Addr) (vM vN : V) (v2 v10 v11 v12 v13 : Option V),
      LRs K H1 m l n C pS xs ys pP ps ds pW zs pE es fs pF us x dx y dy vM vN → n < 500000 → Tabs (tabsK Pk Pl) H1 →
      (∀ (v10 v11 v13 : Option V) (l' : Addr) (H2 : Hp), Mch H2 m l' (n + 1) → Tabs (tabsK Pk Pl) H2 → D.nx [some (.ref a), some (.ref m), v2, some (.ref pS), some (.ref pP), some (.ref pW), some (.ref pE), some (.ref pF), some (.ref x), some (.ref y), v10, v11, v12, v13] H2) →
      tT D [some (.ref a), some (.ref m), v2, some (.ref pS), some (.ref pP), some (.ref pW), some (.ref pE), some (.ref pF), some (.ref x), some (.ref y), v10, v11, v12, v13] H1) :
    ∃ t, PSs (cxOf CX0 P w K mg base NL "law" (defScope sLaw) f (.ref c) callerA [] s H0 Eb).nox (bTurn.drop 8) t ∧ ∀ (D : Ends) (H1 : Hp) (a m l : Addr) (n : Nat) (pS : Addr) (xs : List V) (ys : List (Str × Int)) (pP : Addr) (ps : List V) (ds : List PyData) (pW : Addr) (zs : List Str) (pE : Addr) (es : List V) (fs : List PyData) (pF : Addr) (us : List Str) (x dx y dy : Addr) (vM vN : V) (v2 v10 v11 v12 v13 : Option V),
      LRs K H1 m l n C pS xs ys pP ps ds pW zs pE es fs pF us x dx y dy vM vN → n < 500000 → Tabs (tabsK Pk Pl) H1 →
      (∀ (v10 v11 v13 : Option V) (l' : Addr) (H2 : Hp), Mch H2 m l' (n + 1) → Tabs (tabsK Pk Pl) H2 → D.nx [some (.ref a), some (.ref m), v2, some (.ref pS), some (.ref pP), some (.ref pW), some (.ref pE), some (.ref pF), some (.ref x), some (.ref y), v10, v11, v12, v13] H2) →
      t D [some (.ref a), some (.ref m), v2, some (.ref pS), some (.ref pP), some (.ref pW), some (.ref pE), some (.ref pF), some (.ref x), some (.ref y), v10, v11, v12, v13] H1 := by
  obtain ⟨oc, od, kV, doc, pm, an, cdv, ct, osl, efd, lk, hcd⟩ := FT.ex
  subst efd
  have hr10 : Room 10 (callerA.deeper (envOfC "law" (defScope sLaw) s.heap.objs.size f (.ref c))) := hr.mono (by decide)
  have hmem : (Pl, lamQ) ∈ tabsK Pk Pl := List.mem_cons_of_mem _ (List.mem_singleton.mpr rfl)
  have hu : ∀ p ∈ tabsK Pk Pl, p.1 = Pl → p.2 = lamQ := fun p hp e => by
    rcases List.mem_cons.mp hp with rfl | hp
    · exact absurd e nP
    · rw [List.mem_singleton.mp hp]
  refine ⟨_, pss_cons (ps_if (pt_cmpR (show OpR _ (compareOp .NotEq) (rNeD K) from op_neD (by exact hr.units))
      (pe_lamcall (T := tabsK Pk Pl) (TT := TT6 K C CM CI) (c := c) (P := Pl) (k := 8) (t := fun E => tMeth C "with_modes" (spWith K C CM) [] E (tVar 8) (tCons (tVar 7) tNil)) (by rfl) G.told FT.kp lk hcd bT scTo rfl (Or.inl rfl)
        (told_req X6.RC G.bm G.mi X6.MM X6.IM X6.II X6.RM X6.RI) TB rfl hmem hu hr10 (lamS_by (sc := defScope sLaw) (by decide +kernel)) rfl (fun _ _ _ _ _ => rfl)
        (fun A outer s H E f c' hr3 => pe_meth (pv 8) X6.RC.cl W.mt W.ok hr3 W.bd .nil (passes_call (takes_of rfl rfl rfl rfl) fun _ _ _ _ h => h) (pa_cons (pv 7) pa_nil)))
      (pe_lst (pa_cons (pv 7) (pa_cons (pv 4) (pa_cons (pv 3) pa_nil)))) (nomark _)) (pss_one (ps_ret pe_bl)) pss_nil) dT, ?_⟩
  intro D H1 a m l n pS xs ys pP ps ds pW zs pE es fs pF us x dx y dy vM vN v2 v10 v11 v12 v13 T hn tb nx
  have l1 := T.so.len1
  have l3 := T.so.len3
  have lz := T.lz
  have lu := T.lu
  refine ⟨tb, fun H2 e2 t2 H3 Ec Qc s3 hM hI hQ => ?_⟩
  have e3 : ExtN H1 H3 := e2.trans (Same.toN s3)
  have t3 := Tabs.same t2 s3
  have T3 := T.ext e3
  refine ⟨_, rfl, x, dx, _, rfl, T3.one, rfl, _, rfl, ?_⟩
  have em : modesV ys.length (.tuple (us.map .str)) = none := modes_no (by omega) T.hu
  refine T3.withM T3.dF (fun u' hu' e H4 h1 h2 h3 => by rw [em] at hu'; cases hu') (fun _ x' dx' v3 H4 s4 hx' gx' d3 => ?_)
  refine hQ x' dx' _ _ _ H4 gx' fun p hp => ⟨_, rfl, _, rfl, _, rfl, (by show 3 ≤ sizeLine; decide), fun p2 hp2 => ?_⟩
  have T4 := T3.ext (Same.toN s4)
  refine T4.ne3 hp hp2 d3 T4.dF (by omega) T.hu ⟨_, rfl, ifF rfl ?_⟩
  have s5 : Same H4 (upd (upd H4 p (.lst [v3, .ref pP, .ref pS])) p2 (.lst [.ref pF, .ref pP, .ref pS])) := (Same.upd hp).trans (Same.upd hp2)
  have e5 := e3.trans (Same.toN (s4.trans s5))
  exact zT D _ a m l n pS xs ys pP ps ds pW zs pE es fs pF us x dx y dy vM vN v2 v10 v11 v12 v13 (T.ext e5) hn (Tabs.same t3 (s4.trans s5)) nx
end
end Ms
namespace Ms
open PySem PySem.Spec PyProof.Rows L2 LamX StX
/-! ### law k06: the turn from its sixth statement on -/
def rReprK (K : PySem.W.Frag) : List V → Hp → VK → Prop := fun xs H Q => ∃ x d m l, xs = [x] ∧ Dq K H m l x d ∧ d.showable = true ∧ d.depth ≤ 60 ∧ d.shown.length ≤ sizeLine ∧ Q (.str d.shown) H
def rOwnK (K : PySem.W.Frag) (C : Addr) (sp : Sp) (neg : Bool) (E : XK) : R2 := fun x y H Q => ∃ a dx fs, x = .ref a ∧ H a = some (.ins C dx fs) ∧ ((∃ b dy gs, y = .ref b ∧ H b = some (.ins C dy gs)) ∨ ∃ m l d, Dq K H m l y d) ∧ sp [.ref a, y] H (fun v H' => ∃ b, v = .bl b ∧ Q (.bl (if neg then !b else b)) H') E
section
variable {K : PySem.W.Frag} {H : Hp} {m l : Addr} {n : Nat} {C pS : Addr} {xs : List V} {ys : List (Str × Int)} {pP : Addr} {ps : List V} {ds : List PyData} {pW : Addr} {zs : List Str} {pE : Addr} {es : List V} {fs : List PyData} {pF : Addr} {us : List Str} {x dx y dy : Addr} {vM vN : V}
/-- the two requests are held against each other -/
theorem LRs.sp {Q : VK} {E : XK} (T : LRs K H m l n C pS xs ys pP ps ds pW zs pE es fs pF us x dx y dy vM vN) (q : Q (.bl (PyData.eqv (.tuple (prD ys)) (.tuple (prD ys)) && (PyData.eqv (.tuple ds) (.tuple fs) && PyData.eqv (.tuple (zs.map .str)) (.tuple (us.map .str))))) H) :
    spREq K C [.ref x, .ref y] H Q E := by
  have l3 := T.so.len3
  have lz := T.lz
  have lu := T.lu
  have pp1 : Pl K H m l (.ref pS) (.tuple (prD ys)) := ⟨T.dS, prs_noDiK ys, shaped_of (spots_goodK T.so) (prs_noDiK ys) (by decide)⟩
  have pp2 : Pl K H m l (.ref pP) (.tuple ds) := ⟨T.dP, pls_noDi T.pl, shaped_of (pls_goodK T.so T.d16 T.pl) (pls_noDi T.pl) (by decide)⟩
  have pp3 : Pl K H m l (.ref pE) (.tuple fs) := ⟨T.dE, pls_noDi T.el, shaped_of (pls_goodK T.so T.e16 T.el) (pls_noDi T.el) (by decide)⟩
  have pp4 : Pl K H m l vM (.tuple (zs.map .str)) := ⟨T.vm, strs_noDiK zs, shaped_of (words_goodK (by omega) T.hz) (strs_noDiK zs) (by decide)⟩
  have pp5 : Pl K H m l vN (.tuple (us.map .str)) := ⟨T.vn, strs_noDiK us, shaped_of (words_goodK (by omega) T.hu) (strs_noDiK us) (by decide)⟩
  exact ⟨x, dx, _, _, _, _, rfl, T.one, .inr ⟨y, dy, m, l, _, _, _, _, _, _, _, _, _, rfl, T.two, pp1, pp2, pp4, pp1, pp3, pp5, q⟩⟩
end
section
variable {P : Program} {w : World} {K : PySem.W.Frag} {mg : Str → Option Value} {base : Heap} {C CM CI fKp fWm fTo fN fE fL fKR f c Pk Pl : Addr} {fdTo fdN fdWm fdE fdL fdKR : FuncData} {s : Shared} {H0 : Hp} {Eb : XK}
theorem law_seven {tT : TS} (O : OwnC K C fE fL) (GEq : FnOk P w K mg base CX0 1 fE fdE ["self", "other"] (spREq K C)) (bEq : Binds K fdE ["self", "other"] [])
    (hr : Room 13 (callerA.deeper (envOfC "law" (defScope sLaw) s.heap.objs.size f (.ref c))))
    (dT : PSs (cxOf CX0 P w K mg base NL "law" (defScope sLaw) f (.ref c) callerA [] s H0 Eb).nox (bTurn.drop 8) tT)
    (zT : ∀ (D : Ends) (H1 : Hp) (a m l : Addr) (n : Nat) (pS : Addr) (xs : List V) (ys : List (Str × Int)) (pP : Addr) (ps : List V) (ds : List PyData) (pW : Addr) (zs : List Str) (pE : Addr) (es : List V) (fs : List PyData) (pF : Addr) (us : List Str) (x dx y dy : Addr) (vM vN : V) (v2 v10 v11 v12 v13 : Option V),
      LRs K H1 m l n C pS xs ys pP ps ds pW zs pE es fs pF us x dx y dy vM vN → n < 500000 → Tabs (tabsK Pk Pl) H1 →
      (∀ (v10 v11 v13 : Option V) (l' : Addr) (H2 : Hp), Mch H2 m l' (n + 1) → Tabs (tabsK Pk Pl) H2 → D.nx [some (.ref a), some (.ref m), v2, some (.ref pS), some (.ref pP), some (.ref pW), some (.ref pE), some (.ref pF), some (.ref x), some (.ref y), v10, v11, v12, v13] H2) →
      tT D [some (.ref a), some (.ref m), v2, some (.ref pS), some (.ref pP), some (.ref pW), some (.ref pE), some (.ref pF), some (.ref x), some (.ref y), v10, v11, v12, v13] H1) :
    ∃ t, PSs (cxOf CX0 P w K mg base NL "law" (defScope sLaw) f (.ref c) callerA [] s H0 Eb).nox (bTurn.drop 7) t ∧ ∀ (D : Ends) (H1 : Hp) (a m l : Addr) (n : Nat) (pS : Addr) (xs : List V) (ys : List (Str × Int)) (pP : Addr) (ps : List V) (ds : List PyData) (pW : Addr) (zs : List Str) (pE : Addr) (es : List V) (fs : List PyData) (pF : Addr) (us : List Str) (x dx y dy : Addr) (vM vN : V) (v2 v10 v11 v12 v13 : Option V),
      LRs K H1 m l n C pS xs ys pP ps ds pW zs pE es fs pF us x dx y dy vM vN → n < 500000 → Tabs (tabsK Pk Pl) H1 →
      (∀ (v10 v11 v13 : Option V) (l' : Addr) (H2 : Hp), Mch H2 m l' (n + 1) → Tabs (tabsK Pk Pl) H2 → D.nx [some (.ref a), some (.ref m), v2, some (.ref pS), some (.ref pP), some (.ref pW), some (.ref pE), some (.ref pF), some (.ref x), some (.ref y), v10, v11, v12, v13] H2) →
      t D [some (.ref a), some (.ref m), v2, some (.ref pS), some (.ref pP), some (.ref pW), some (.ref pE), some (.ref pF), some (.ref x), some (.ref y), v10, v11, v12, v13] H1 := by
  have hr1 : Room 1 (callerA.deeper (envOfC "law" (defScope sLaw) s.heap.objs.size f (.ref c))) := hr.mono (by decide)
  have hr2 : Room 2 (callerA.deeper (envOfC "law" (defScope sLaw) s.heap.objs.size f (.ref c))) := hr.mono (by decide)
  have hr12 : Room 12 (callerA.deeper (envOfC "law" (defScope sLaw) s.heap.objs.size f (.ref c))) := hr.mono (by decide)
  refine ⟨_, pss_cons (ps_if (pt_cmpR (show OpR _ (compareOp .NotEq) (rNeD K) from op_neD (by exact hr.units)) (pe_lc (own := [("thing", 13)]) (g := gName 13) (by rfl) scL.nd (pi_list (pe_lst (pa_cons (pv 4) (pa_cons (pv 5) (pa_cons pe_non (pa_cons pe_int (pa_cons pe_str (pa_cons (pe_lst (pa_cons (pv 3) (pa_cons (pv 4) (pa_cons (pv 5) pa_nil)))) pa_nil)))))))) (blkOk_by (own := [("thing", 13)]) (N := NL) (sc := defScope sLaw) (by decide +kernel))
      (fun _ _ _ _ _ => pg_name (i := 13) scL.nd rfl (by first | exact Or.inl rfl | exact Or.inr rfl)) (fun _ _ _ _ _ => pts_one (pt_cmpR (show OpR _ (compareOp .Eq) (rOwnK K C (spREq K C) false (fun _ _ _ => False)) from by exact op_eqOwn O GEq hr1 bEq pass0) (pv 8) (pv 13) (by rfl))) (fun _ _ _ _ _ => pv 13)) (pe_lst pa_nil) (nomark _)) (pss_one (ps_ret pe_bl)) pss_nil) dT, ?_⟩
  intro D H1 a m l n pS xs ys pP ps ds pW zs pE es fs pF us x dx y dy vM vN v2 v10 v11 v12 v13 T hn tb nx
  have l1 := T.so.len1
  have l3 := T.so.len3
  have lz := T.lz
  refine ⟨_, rfl, _, rfl, _, rfl, _, rfl, _, rfl, (by show 3 ≤ sizeLine; decide), fun q hq => ?_⟩
  have sq : Same H1 (upd H1 q (.lst [.ref pS, .ref pP, .ref pW])) := Same.upd hq
  have nq := T.M.ne hq
  have gq : (upd H1 q (.lst [.ref pS, .ref pP, .ref pW])) q = some (.lst [.ref pS, .ref pP, .ref pW]) := upd_same
  generalize upd H1 q (.lst [.ref pS, .ref pP, .ref pW]) = H2 at sq gq ⊢
  refine ⟨(by show 6 ≤ sizeLine; decide), fun F hF => ?_⟩
  have sF : Same H2 (upd H2 F (.lst [.ref pP, .ref pW, .non, .int 5, .str "request", .ref q])) := Same.upd hF
  have gF : (upd H2 F (.lst [.ref pP, .ref pW, .non, .int 5, .str "request", .ref q])) F = some (.lst [.ref pP, .ref pW, .non, .int 5, .str "request", .ref q]) := upd_same
  generalize upd H2 F (.lst [.ref pP, .ref pW, .non, .int 5, .str "request", .ref q]) = H3 at sF gF ⊢
  have s3 := sq.trans sF
  refine ⟨F, rfl, ⟨_, SqL.of gF⟩, fun D1 hD1 => ?_⟩
  have s4 : Same H3 (upd H3 D1 (.lst [])) := Same.upd hD1
  have gD : (upd H3 D1 (.lst [])) D1 = some (.lst []) := upd_same
  have gq3 := sF _ _ gq
  have M3 := T.M.same s3
  have nD := M3.ne hD1
  obtain ⟨H4, e4⟩ : ∃ G, G = upd H3 D1 (.lst []) := ⟨_, rfl⟩
  rw [← e4] at s4 gD
  have s14 := s3.trans s4
  have T4 := T.ext (Same.toN s14)
  have gq4 := s4 _ _ gq3
  refine lc_list (K := K) (a := F) (xs := [.ref pP, .ref pW, .non, .int 5, .str "request", .ref q]) (fun i H5 => H5 = H4) e4.symm (fun i H5 _ e => by rw [e]; exact SqL.of (s4 _ _ gF)) ?_ ?_
  · rintro i th H5 hi rfl
    have key : ∃ d, Dq K H5 m l th d := by
      match i, hi with
      | 0, hi => cases hi; exact ⟨_, T4.dP⟩
      | 1, hi => cases hi; exact ⟨_, T4.dW⟩
      | 2, hi => cases hi; exact ⟨_, .non⟩
      | 3, hi => cases hi; exact ⟨_, .int 5⟩
      | 4, hi => cases hi; exact ⟨_, .str _⟩
      | 5, hi => cases hi; exact ⟨_, .lst gq4 nq.1 nq.2 (.cons T4.dS (.cons T4.dP (.cons T4.dW .nil)))⟩
      | i + 6, hi => simp at hi
    obtain ⟨d, hd⟩ := key
    refine ⟨rfl, _, rfl, _, rfl, x, dx, _, rfl, T4.one, .inr ⟨m, l, d, hd⟩, x, dx, _, _, _, _, rfl, T4.one, .inl ⟨m, l, d, hd, _, rfl, _, rfl, ifF rfl rfl⟩⟩
  rintro H5 rfl
  refine ⟨(by show 0 ≤ sizeLine; decide), fun p hp => ?_⟩
  have s5 : Same H5 (upd H5 p (.lst [])) := Same.upd hp
  have np := T4.M.ne hp
  refine ne_self (m := m) (l := l) (d := .list []) (.lst (s5 _ _ gD) nD.1 nD.2 .nil) (.lst upd_same np.1 np.2 .nil) (Gd.lst (B := big) (b := 0) ⟨(fun d h => nomatch h), Nat.le_refl _, (fun d h => nomatch h)⟩) rfl (by decide) ⟨_, rfl, ifF rfl ?_⟩
  have s15 := s14.trans s5
  exact zT D _ a m l n pS xs ys pP ps ds pW zs pE es fs pF us x dx y dy vM vN v2 v10 v11 v12 v13 (T.ext (Same.toN s15)) hn (Tabs.same tb s15) nx
theorem law_six {tT : TS} (O : OwnC K C fE fL) (GEq : FnOk P w K mg base CX0 1 fE fdE ["self", "other"] (spREq K C)) (bEq : Binds K fdE ["self", "other"] []) (gKR : mg "_law_kept_right" = some (.ref fKR)) (FKR : Fun K "_law_kept_right" "_law_kept_right" sKept fKR fdKR) (bKR : Binds K fdKR ["m"] []) (GKR : FnOk P w K mg base CX0 12 fKR fdKR ["m"] (spKR Pk Pl))
    (hr : Room 13 (callerA.deeper (envOfC "law" (defScope sLaw) s.heap.objs.size f (.ref c))))
    (dT : PSs (cxOf CX0 P w K mg base NL "law" (defScope sLaw) f (.ref c) callerA [] s H0 Eb).nox (bTurn.drop 7) tT)
    (zT : ∀ (D : Ends) (H1 : Hp) (a m l : Addr) (n : Nat) (pS : Addr) (xs : List V) (ys : List (Str × Int)) (pP : Addr) (ps : List V) (ds : List PyData) (pW : Addr) (zs : List Str) (pE : Addr) (es : List V) (fs : List PyData) (pF : Addr) (us : List Str) (x dx y dy : Addr) (vM vN : V) (v2 v10 v11 v12 v13 : Option V),
      LRs K H1 m l n C pS xs ys pP ps ds pW zs pE es fs pF us x dx y dy vM vN → n < 500000 → Tabs (tabsK Pk Pl) H1 →
      (∀ (v10 v11 v13 : Option V) (l' : Addr) (H2 : Hp), Mch H2 m l' (n + 1) → Tabs (tabsK Pk Pl) H2 → D.nx [some (.ref a), some (.ref m), v2, some (.ref pS), some (.ref pP), some (.ref pW), some (.ref pE), some (.ref pF), some (.ref x), some (.ref y), v10, v11, v12, v13] H2) →
      tT D [some (.ref a), some (.ref m), v2, some (.ref pS), some (.ref pP), some (.ref pW), some (.ref pE), some (.ref pF), some (.ref x), some (.ref y), v10, v11, v12, v13] H1) :
    ∃ t, PSs (cxOf CX0 P w K mg base NL "law" (defScope sLaw) f (.ref c) callerA [] s H0 Eb).nox (bTurn.drop 6) t ∧ ∀ (D : Ends) (H1 : Hp) (a m l : Addr) (n : Nat) (pS : Addr) (xs : List V) (ys : List (Str × Int)) (pP : Addr) (ps : List V) (ds : List PyData) (pW : Addr) (zs : List Str) (pE : Addr) (es : List V) (fs : List PyData) (pF : Addr) (us : List Str) (x dx y dy : Addr) (vM vN : V) (v2 v10 v11 v12 v13 : Option V),
      LRs K H1 m l n C pS xs ys pP ps ds pW zs pE es fs pF us x dx y dy vM vN → n < 400000 → Tabs (tabsK Pk Pl) H1 →
      (∀ (v10 v11 v13 : Option V) (l' : Addr) (H2 : Hp), Mch H2 m l' (n + 10) → Tabs (tabsK Pk Pl) H2 → D.nx [some (.ref a), some (.ref m), v2, some (.ref pS), some (.ref pP), some (.ref pW), some (.ref pE), some (.ref pF), some (.ref x), some (.ref y), v10, v11, v12, v13] H2) →
      t D [some (.ref a), some (.ref m), v2, some (.ref pS), some (.ref pP), some (.ref pW), some (.ref pE), some (.ref pF), some (.ref x), some (.ref y), v10, v11, v12, v13] H1 := by
  have hr1 : Room 1 (callerA.deeper (envOfC "law" (defScope sLaw) s.heap.objs.size f (.ref c))) := hr.mono (by decide)
  have hr2 : Room 2 (callerA.deeper (envOfC "law" (defScope sLaw) s.heap.objs.size f (.ref c))) := hr.mono (by decide)
  have hr12 : Room 12 (callerA.deeper (envOfC "law" (defScope sLaw) s.heap.objs.size f (.ref c))) := hr.mono (by decide)
  refine ⟨_, pss_cons (ps_if (PW.pt (pw_or (pt_cmpR op_eq (pe_cmpR (show OpR _ (compareOp .NotEq) (rOwnK K C (spREq K C) true (fun _ _ _ => False)) from by exact op_neOwn O GEq hr2 bEq pass0) (pv 8) (pv 9) (by rfl)) (pe_cmpR (show OpR _ (compareOp .Eq) (rOwnK K C (spREq K C) false (fun _ _ _ => False)) from by exact op_eqOwn O GEq hr1 bEq pass0) (pv 8) (pv 9) (by rfl)) (nomark _))
      (pw_or1 (pt_not (pt_val (pe_call GKR hr12 (by rfl) gKR FKR.kp bKR .nil pass0 (pa_cons (pv 1) pa_nil))))))) (pss_one (ps_ret pe_bl)) pss_nil) dT, ?_⟩
  intro D H1 a m l n pS xs ys pP ps ds pW zs pE es fs pF us x dx y dy vM vN v2 v10 v11 v12 v13 T hn tb nx
  have l1 := T.so.len1
  have l3 := T.so.len3
  have lz := T.lz
  refine ⟨_, rfl, _, rfl, x, dx, _, rfl, T.one, .inl ⟨_, _, _, rfl, T.two⟩, T.sp ⟨_, rfl, ?_⟩⟩
  refine ⟨_, rfl, _, rfl, x, dx, _, rfl, T.one, .inl ⟨_, _, _, rfl, T.two⟩, T.sp ⟨_, rfl, rfl, _, rfl, ifF ?_ ?_⟩⟩
  · rw [decide_eq_false_iff_not, V.bl.injEq]
    generalize (PyData.eqv _ _ && (PyData.eqv _ _ && PyData.eqv _ _)) = b
    cases b <;> decide
  refine ⟨_, rfl, m, l, n, rfl, T.M, by omega, tb, fun l' H2 M2 st t2 => ⟨_, rfl, ifF rfl ?_⟩⟩
  exact zT D H2 a m l' (n + 9) pS xs ys pP ps ds pW zs pE es fs pF us x dx y dy vM vN v2 v10 v11 v12 v13 (T.stp st M2) (by omega) t2 nx
theorem law_five {tT : TS} (T0 : Txt mg) (hrep : mg "repr" = none) (O : OwnC K C fE fL) (GEq : FnOk P w K mg base CX0 1 fE fdE ["self", "other"] (spREq K C)) (bEq : Binds K fdE ["self", "other"] []) (GLn : FnOk P w K mg base CX0 1 fL fdL ["self"] (spRLen K C)) (bLn : Binds K fdL ["self"] [])
    (hr : Room 13 (callerA.deeper (envOfC "law" (defScope sLaw) s.heap.objs.size f (.ref c))))
    (dT : PSs (cxOf CX0 P w K mg base NL "law" (defScope sLaw) f (.ref c) callerA [] s H0 Eb).nox (bTurn.drop 6) tT)
    (zT : ∀ (D : Ends) (H1 : Hp) (a m l : Addr) (n : Nat) (pS : Addr) (xs : List V) (ys : List (Str × Int)) (pP : Addr) (ps : List V) (ds : List PyData) (pW : Addr) (zs : List Str) (pE : Addr) (es : List V) (fs : List PyData) (pF : Addr) (us : List Str) (x dx y dy : Addr) (vM vN : V) (v2 v10 v11 v12 v13 : Option V),
      LRs K H1 m l n C pS xs ys pP ps ds pW zs pE es fs pF us x dx y dy vM vN → n < 400000 → Tabs (tabsK Pk Pl) H1 →
      (∀ (v10 v11 v13 : Option V) (l' : Addr) (H2 : Hp), Mch H2 m l' (n + 10) → Tabs (tabsK Pk Pl) H2 → D.nx [some (.ref a), some (.ref m), v2, some (.ref pS), some (.ref pP), some (.ref pW), some (.ref pE), some (.ref pF), some (.ref x), some (.ref y), v10, v11, v12, v13] H2) →
      tT D [some (.ref a), some (.ref m), v2, some (.ref pS), some (.ref pP), some (.ref pW), some (.ref pE), some (.ref pF), some (.ref x), some (.ref y), v10, v11, v12, v13] H1) :
    ∃ t, PSs (cxOf CX0 P w K mg base NL "law" (defScope sLaw) f (.ref c) callerA [] s H0 Eb).nox (bTurn.drop 5) t ∧ ∀ (D : Ends) (H1 : Hp) (a m l : Addr) (n : Nat) (pS : Addr) (xs : List V) (ys : List (Str × Int)) (pP : Addr) (ps : List V) (ds : List PyData) (pW : Addr) (zs : List Str) (pE : Addr) (es : List V) (fs : List PyData) (pF : Addr) (us : List Str) (x dx y dy : Addr) (vM vN : V) (v2 v10 v11 v12 v13 : Option V),
      LRs K H1 m l n C pS xs ys pP ps ds pW zs pE es fs pF us x dx y dy vM vN → n < 400000 → Tabs (tabsK Pk Pl) H1 →
      (∀ (v10 v11 v13 : Option V) (l' : Addr) (H2 : Hp), Mch H2 m l' (n + 10) → Tabs (tabsK Pk Pl) H2 → D.nx [some (.ref a), some (.ref m), v2, some (.ref pS), some (.ref pP), some (.ref pW), some (.ref pE), some (.ref pF), some (.ref x), some (.ref y), v10, v11, v12, v13] H2) →
      t D [some (.ref a), some (.ref m), v2, some (.ref pS), some (.ref pP), some (.ref pW), some (.ref pE), some (.ref pF), some (.ref x), some (.ref y), v10, v11, v12, v13] H1 := by
  have hr1 : Room 1 (callerA.deeper (envOfC "law" (defScope sLaw) s.heap.objs.size f (.ref c))) := hr.mono (by decide)
  have hr2 : Room 2 (callerA.deeper (envOfC "law" (defScope sLaw) s.heap.objs.size f (.ref c))) := hr.mono (by decide)
  have hr12 : Room 12 (callerA.deeper (envOfC "law" (defScope sLaw) s.heap.objs.size f (.ref c))) := hr.mono (by decide)
  have gA : (callerA.deeper (envOfC "law" (defScope sLaw) s.heap.objs.size f (.ref c))).guards = some [] := rfl
  refine ⟨_, pss_cons (ps_if (PW.pt (pw_or (pt_cmpR op_ne (pe_callB (show CallR _ (.builtin "repr") (rReprK K) from call_reprD (by exact gA) (by exact hr.units)) (by rfl) hrep (id (by decide +kernel : PySem.bootBuiltins "repr" = some (Value.builtin "repr"))) (pa_cons (pe_callB (show CallR _ (.builtin "len") (rOwnL C (spRLen K C) (fun _ _ _ => False)) from by exact call_lenOwn O GLn hr2 bLn pass0) (by rfl) T0.len PySem.boot_len (pa_cons (pv 8) pa_nil)) pa_nil))
        (pe_callB (show CallR _ (.builtin "repr") (rReprK K) from call_reprD (by exact gA) (by exact hr.units)) (by rfl) hrep (id (by decide +kernel : PySem.bootBuiltins "repr" = some (Value.builtin "repr"))) (pa_cons (pe_callB call_len (by rfl) T0.len PySem.boot_len (pa_cons (pv 4) pa_nil)) pa_nil)) (nomark _))
      (pw_or1 (pt_cmpR op_ne (pe_cmpR (show OpR _ (compareOp .Eq) (rOwnK K C (spREq K C) false (fun _ _ _ => False)) from by exact op_eqOwn O GEq hr1 bEq pass0) (pv 8) (pv 9) (by rfl)) (pe_cmpR (show OpR _ (compareOp .Eq) (rEqD K) from op_eqD (by exact hr.units)) (pe_lst (pa_cons (pv 4) (pa_cons (pv 5) pa_nil))) (pe_lst (pa_cons (pv 6) (pa_cons (pv 7) pa_nil))) (by rfl)) (nomark _))))) (pss_one (ps_ret pe_bl)) pss_nil) dT, ?_⟩
  intro D H1 a m l n pS xs ys pP ps ds pW zs pE es fs pF us x dx y dy vM vN v2 v10 v11 v12 v13 T hn tb nx
  have l1 := T.so.len1
  have l3 := T.so.len3
  have lz := T.lz
  have lu := T.lu
  have d16 := T.d16
  have lp : ps.length = ds.length := T.pd.len
  have sh := Gd.shown (Gd.int (B := 10 ^ 31) (i := ((ps.length : Nat) : Int)) (by omega) (Nat.le_refl _)) (by decide)
  refine ⟨_, rfl, x, dx, _, rfl, T.one, x, dx, pP, _, _, ps, rfl, T.one, T.p.seqT, _, rfl, by omega, by omega, ?_⟩
  refine ⟨_, .int ps.length, m, l, rfl, .int _, sh.1, (by show 0 ≤ 60; decide), sh.2, ?_⟩
  refine ⟨_, rfl, .ref pP, ps.length, rfl, .inr ⟨ps, T.p.seqT, rfl⟩, ?_⟩
  refine ⟨_, .int ps.length, m, l, rfl, .int _, sh.1, (by show 0 ≤ 60; decide), sh.2, rfl, _, rfl, ifF (by simp) ?_⟩
  refine ⟨_, rfl, _, rfl, x, dx, _, rfl, T.one, .inl ⟨_, _, _, rfl, T.two⟩, T.sp ⟨_, rfl, ?_⟩⟩
  refine ⟨_, rfl, _, rfl, (by show 2 ≤ sizeLine; decide), fun p hp => ?_⟩
  refine ⟨_, rfl, _, rfl, (by show 2 ≤ sizeLine; decide), fun p2 hp2 => ?_⟩
  have s1 : Same H1 (upd H1 p (.lst [.ref pP, .ref pW])) := Same.upd hp
  have s2 : Same (upd H1 p (.lst [.ref pP, .ref pW])) (upd (upd H1 p (.lst [.ref pP, .ref pW])) p2 (.lst [.ref pE, .ref pF])) := Same.upd hp2
  have s12 := s1.trans s2
  have n1 := T.M.ne hp
  have n2 := (T.M.same s1).ne hp2
  have T2 := T.ext (Same.toN s12)
  have gP : Gd (10 ^ 31) 100000 3 (.tuple ds) := (pls_goodK T.so T.d16 T.pl).mono (by decide) (by decide) (Nat.le_refl _)
  have gE : Gd (10 ^ 31) 100000 3 (.tuple fs) := (pls_goodK T.so T.e16 T.el).mono (by decide) (by decide) (Nat.le_refl _)
  have gW : Gd (10 ^ 31) 100000 3 (.tuple (zs.map .str)) := (words_goodK (by omega) T.hz).mono (by decide) (by decide) (by decide)
  have gF : Gd (10 ^ 31) 100000 3 (.tuple (us.map .str)) := (words_goodK (by omega) T.hu).mono (by decide) (by decide) (by decide)
  have nd1 : noDi (.list [.tuple ds, .tuple (zs.map .str)]) = true := by
    show noDiAll [PyData.tuple ds, .tuple (zs.map .str)] = true
    simp only [noDiAll, strs_noDiK, pls_noDi T.pl, Bool.and_true, Bool.true_and]
  have nd2 : noDi (.list [.tuple fs, .tuple (us.map .str)]) = true := by
    show noDiAll [PyData.tuple fs, .tuple (us.map .str)] = true
    simp only [noDiAll, strs_noDiK, pls_noDi T.el, Bool.and_true, Bool.true_and]
  refine ⟨_, _, Dq.dp (m := m) (l := l) (.list [.tuple ds, .tuple (zs.map .str)]) _ (.lst (s2 _ _ upd_same) n1.1 n1.2 (.cons T2.dP (.cons T2.dW .nil))) nd1, Dq.dp (m := m) (l := l) (.list [.tuple fs, .tuple (us.map .str)]) _ (.lst upd_same n2.1 n2.2 (.cons T2.dE (.cons T2.dF .nil))) nd2,
    shaped_of (Gd.lst ((Gl'.one gP).app (Gl'.one gW))) nd1 (by decide), shaped_of (Gd.lst ((Gl'.one gE).app (Gl'.one gF))) nd2 (by decide), ?_⟩
  refine ⟨rfl, _, rfl, ifF ?_ ?_⟩
  · have e1 : PyData.eqv (.tuple (prD ys)) (.tuple (prD ys)) = true := SeqAt.eqv_refl _ (lay_of _ (spots_goodK T.so).ok (prs_noDiK ys))
    have e2 : PyData.eqv (.list [.tuple ds, .tuple (zs.map .str)]) (.list [.tuple fs, .tuple (us.map .str)]) = (PyData.eqv (.tuple ds) (.tuple fs) && (PyData.eqv (.tuple (zs.map .str)) (.tuple (us.map .str)) && true)) := rfl
    rw [e1, e2, Bool.true_and, Bool.and_true]
    simp
  exact zT D _ a m l n pS xs ys pP ps ds pW zs pE es fs pF us x dx y dy vM vN v2 v10 v11 v12 v13 T2 hn (Tabs.same tb s12) nx
end
end Ms
namespace Ms
open PySem PySem.Spec PyProof.Rows L2
/-! ### t.count(x) of data -/
def rCountD (K : PySem.W.Frag) : V → List V → Hp → VK → Prop := fun x xs H Q => ∃ (a : Addr) (y : V) (ys : List V) (d : PyData) (ds : List PyData), x = V.ref a ∧ xs = [y] ∧ SqT K H a ys ∧ DpAll K H ys ds ∧ Dp K H y d ∧ PyData.plainAll ds = true ∧ d.plain = true ∧ d.depth ≤ 60 ∧ Q (.int ((ds.countP fun z => PyData.eqv z d : Nat) : Int)) H
theorem mt_countD {X : Cx} (hu : X.A.units + 64 < cLine) : MtR X "tuple.count" (rCountD X.K) := by
  intro pins s σ H x xs v us Q I rx rxs h
  obtain ⟨a, y, ys, d, ds, rfl, rfl, hs, hl, hy, sl, sd, hd, q⟩ := h
  cases rx
  cases rxs with
  | cons ry rt =>
    rename_i uy ut
    cases rt
    obtain ⟨bs, r1⟩ := Dp.reads I d y uy hy ry
    obtain ⟨its, rv, p1, _⟩ := I.tuple hs
    obtain ⟨as, h4⟩ := Dp.readsAll I ds _ its hl rv
    refine PySem.SeqAt.count_tuple_data (vs := its.toArray) (xs := ds) (d := d) p1 (by simpa using h4) r1 sl sd (by omega) ⟨.int _, H, I.tok _, ⟨_, rfl⟩, q⟩
/-! ### tuples of which the very object is told: it has no dict of its own -/
def FrT (H : Hp) (p : Addr) (xs : List V) : Prop := ∃ ob, H p = some (.frz ob (.tup xs)) ∧ ob.dict = none
theorem FrT.seqT {K : PySem.W.Frag} {H : Hp} {p : Addr} {xs : List V} (h : FrT H p xs) : SqT K H p xs := by
  obtain ⟨ob, e, _⟩ := h
  exact .inl (.inr ⟨ob, e⟩)
theorem FrT.same {H H' : Hp} {p : Addr} {xs : List V} (s : Same H H') (h : FrT H p xs) : FrT H' p xs := by
  obtain ⟨ob, e, d⟩ := h
  exact ⟨ob, s _ _ e, d⟩
/-- tuple(list) -/
def rTupF (K : PySem.W.Frag) : List V → Hp → VK → Prop := fun xs H Q => ∃ p ys, xs = [.ref p] ∧ SqL K H p ys ∧ ∀ l ob, H l = none → ob.dict = none → Q (.ref l) (upd H l (.frz ob (.tup ys)))
theorem call_tuple_ofF {X : Cx} : CallR X (.type "tuple") (rTupF X.K) := by
  intro pins s σ H xs us Q I r h
  obtain ⟨p, ys, rfl, hq, q⟩ := h
  obtain ⟨u, rfl, rx⟩ := vals1 r
  cases rx
  obtain ⟨its, r', pl, hz⟩ := I.list hq
  have hlen := r'.length
  refine call_tuple_list pl.isList (fun h' kp => ?_) (by simp only [List.size_toArray] <;> omega)
  have I1 : Inv X pins σ H { s with heap := h' } := I.kept (t' := s.toks) kp
  obtain ⟨ob, eob⟩ : ∃ ob : Obj, ob = { cls := .type "tuple", data := .seq its.toArray } := ⟨_, rfl⟩
  have I2 : Inv X pins σ (upd H h'.objs.size (.frz ob (.tup ys))) { s with heap := h'.push { cls := .type "tuple", data := .seq its.toArray } } :=
    I1.laid (t' := s.toks) (fun b o e => Heap.get?_push_of_some _ e) (Nat.le_refl _) (show ObjOk X.prog X.w _ _ _ (.frz ob (.tup ys)) from ⟨by rw [eob]; exact Heap.get?_push_size _ rfl, hz, its, r', IsTup.new _ _⟩)
  exact ⟨.ref h'.objs.size, _, I2, rfl, q _ ob (I1.hok.fresh (Nat.le_refl _)) (by rw [eob])⟩
/-- t[lo:hi], not the whole of it -/
def rSlF (K : PySem.W.Frag) : V → Option Int → Option Int → Hp → VK → Prop := fun x lo hi H Q => ∃ a xs, x = .ref a ∧ SqT K H a xs ∧ ¬ (HT.sIx xs.length 0 lo = 0 ∧ HT.sIx xs.length xs.length hi = xs.length) ∧ ∀ p ob, H p = none → ob.dict = none → Q (.ref p) (upd H p (.frz ob (.tup (cutV xs lo hi))))
theorem sl_tupF {X : Cx} : SlR X (rSlF X.K) := by
  intro pins s σ H x v vl vu lo hi sl Q I rx hs pl pu h
  obtain ⟨a, xs, rfl, hx, hw, q⟩ := h
  cases rx
  obtain ⟨its, r, ht, hz⟩ := I.tuple hx
  have hlen : its.toArray.size = xs.length := by rw [List.size_toArray]; exact r.length.symm
  refine ⟨"tuple", _, PyProof.Rows.slot_tuple_getitem.lookup, ht.typeIs, ?_⟩
  refine HT.getItem_tuple_cut ht hs pl pu (by rw [hlen]; exact hw) ?_ (by rw [hlen]; exact hz)
  rw [hlen]
  obtain ⟨ob, eob⟩ : ∃ ob : Obj, ob = { cls := .type "tuple", data := .seq (List.take (HT.sIx xs.length xs.length hi - HT.sIx xs.length 0 lo) (List.drop (HT.sIx xs.length 0 lo) its.toArray.toList)).toArray } := ⟨_, rfl⟩
  refine ⟨.ref s.heap.objs.size, _, I.laid (t' := s.toks) (o := .frz ob (.tup (cutV xs lo hi))) (fun b ob q => Heap.get?_push_of_some _ q) (Nat.le_refl _) ?_, rfl, q _ ob (I.hok.fresh (Nat.le_refl _)) (by rw [eob])⟩
  exact ⟨by rw [eob]; exact Heap.get?_push_size _ rfl, Nat.le_trans (cutV_length xs lo hi) hz, _, (r.drop (HT.sIx xs.length 0 lo)).take (HT.sIx xs.length xs.length hi - HT.sIx xs.length 0 lo), IsTup.new _ _⟩
/-- o.m(..), o such a tuple -/
def tBMF (r : V → List V → Hp → VK → Prop) (to : TE) (t : TA) : TE := fun σ H Q => to σ H fun x H1 => (∃ p xs, x = .ref p ∧ FrT H1 p xs) ∧ t σ H1 fun xs H2 => r x xs H2 Q
theorem pe_bmF {X : Cx} {o e : Expr} {es : List Expr} {to : TE} {t : TA} {name : Str} {apos cpos : Pos} {id : String} {r : V → List V → Hp → VK → Prop} (slot : Slot "tuple" name id) (hty : typeOf (.builtin id) = pure (.type "method_descriptor")) (hm : MtR X id r) (ho : PE X o to) (ha : PA X (e :: es) t)
    (hbase : attributeBase o name X.env (eval o X.env) = eval o X.env := by rfl)
    (hfew : ((backTo cpos (starEach (e :: es) X.env)).all (fun x => !x.1) && (backToKw cpos (keywordEach [] X.env)).all (fun x => x.1.isSome)
      && decide ((e :: es).length + ([] : List Keyword).length + (if ([] : List Keyword).isEmpty then 0 else 1) < 30)) = true := by rfl)
    (hline : (apos.endLine == cpos.line) = true := by rfl) (hs : starEach (e :: es) X.env = (false, eval e X.env) :: starEach es X.env := by rfl) (hplain : (backTo cpos (starEach es X.env)).any (·.1) = false := by rfl) :
    PE X (.Call (.Attribute o name apos) (e :: es) [] cpos) (tBMF r to t) := by
  refine ⟨fun pins s σ H Q I h => ?_⟩
  refine wpAny_Call_method_late hbase hfew hline rfl (thn (ho.run pins s σ H _ I h) fun v s1 ⟨x, H1, I1, r1, ty, q1⟩ => ?_)
  obtain ⟨p, xs, rfl, ob, eob, hdn⟩ := ty
  obtain rfl : v = Value.ref p := r1
  obtain ⟨hget, _, its, _, ht⟩ := (show ObjOk X.prog X.w H1 s1.heap p (.frz ob (.tup xs)) from I1.hok p _ eob)
  refine ⟨"tuple", id, PySem.F.plainAttrs_tuple, slot, hty, ht.typeIs, fun a ea => by cases ea; exact ⟨ob, hget, hdn⟩, ?_⟩
  have hA := ha.run cpos pins s1 σ H1 _ I1 q1
  rw [hs] at hA ⊢
  refine Calls.callWith_builtin (by show (false || (backTo cpos (starEach es X.env)).any (·.1)) = false; rw [hplain] <;> rfl) (Calls.evalArgs_plain ?_)
  exact thn hA fun us s2 ⟨vs, H2, I2, r2, q2⟩ => hm pins s2 σ H2 (.ref p) vs (.ref p) us Q I2 rfl r2 q2
/-- pe_bm, the part that is written told by its name -/
theorem pe_bmK {X : Cx} {K : PySem.W.Frag} {o e : Expr} {es : List Expr} {to : TE} {t : TA} {name : Str} {apos cpos : Pos} {T id : String} {r : V → List V → Hp → VK → Prop} (hK : X.K = K) (pa : PlainAttrs T) (slot : Slot T name id) (hty : typeOf (.builtin id) = pure (.type "method_descriptor")) (hm : MtR X id r) (ho : PE X o to) (ha : PA X (e :: es) t)
    (hbase : attributeBase o name X.env (eval o X.env) = eval o X.env := by rfl)
    (hfew : ((backTo cpos (starEach (e :: es) X.env)).all (fun x => !x.1) && (backToKw cpos (keywordEach [] X.env)).all (fun x => x.1.isSome)
      && decide ((e :: es).length + ([] : List Keyword).length + (if ([] : List Keyword).isEmpty then 0 else 1) < 30)) = true := by rfl)
    (hline : (apos.endLine == cpos.line) = true := by rfl) (hs : starEach (e :: es) X.env = (false, eval e X.env) :: starEach es X.env := by rfl) (hplain : (backTo cpos (starEach es X.env)).any (·.1) = false := by rfl) :
    PE X (.Call (.Attribute o name apos) (e :: es) [] cpos) (tBM K T r to t) := by
  subst hK
  exact pe_bm pa slot hty hm ho ha hbase hfew hline hs hplain
/-! ### a + b, both of one own class -/
section
variable {X : Cx} {CX : CXT} {C f : Addr} {k : Nat} {fd : FuncData} {ps : List Str} {sp : Sp} {E : XK}
/-- what the own + is asked and hands back -/
def rOwnB (C : Addr) (sp : Sp) (E : XK) : R2 := fun x y H Q => ∃ a b dx dy fs gs, x = .ref a ∧ y = .ref b ∧ H a = some (.ins C dx fs) ∧ H b = some (.ins C dy gs) ∧ sp [.ref a, .ref b] H (fun v H' => (∃ p, v = .ref p) ∧ Q v H') E
theorem op_own {op : Operator} (F : FnOk X.prog X.w X.K X.mg X.base CX k f fd ps sp) (hr : Room k X.A) (hs : PySem.W.findIn X.K (.ref C) (PySem.dunder op.info.2) = some (some (.ref f))) (hf : PySem.W.isFn X.K (.ref f) = true) (hc : PySem.W.selfFirst X.K C = true)
    (hb : Binds X.K fd ps []) (hx : Passes CX X E) : OpR X (binaryOp op) (rOwnB C sp E) := by
  intro pins s σ H x y v u Q I rx ry h
  obtain ⟨a, b, dx, dy, fs, gs, rfl, rfl, ha, hb', h⟩ := h
  cases rx
  cases ry
  obtain ⟨mA, J, _⟩ := ins_get I.hok ha
  obtain ⟨mB, J', _⟩ := ins_get I.hok hb'
  obtain ⟨od, J, _⟩ := J.look
  obtain ⟨od', J', _⟩ := J'.look
  obtain ⟨m, hF⟩ := I.fr
  refine PySem.W.binop_K hF I.ok.mod.kin J J'.type hc hs hf ?_
  refine thn (run_fn (us := [.ref a, .ref b]) (vs := [.ref a, .ref b]) (dvs := []) (ds := []) F hr hb .nil hx I (.cons rfl (.cons rfl .nil)) h) fun w s' hw => ?_
  obtain ⟨z, H', I', rz, ⟨p, ez⟩, q⟩ := hw
  subst ez
  cases rz
  exact ⟨.ref p, H', I', rfl, q⟩
end
/-! ### an end -/
def isE (d : PyData) : Bool := isEnd d "end"
end Ms
namespace Ms
open PySem PySem.Spec PyProof.Rows L2
structure TxtL (mg : Str → Option Value) (fN fM : Addr) : Prop extends TxtS mg fN fM where
  min : mg "min" = none
abbrev NPl : List Str := ["m", "spots", "most", "many", "words", "found", "back", "at", "way", "near", "low", "word", "name", "bound", "row", "k"]
theorem scPc : FnScope NPl ["m", "spots", "most"] (defScope sPlaces) := ⟨rfl, rfl, rfl, by decide +kernel, rfl, by decide +kernel, by decide +kernel⟩
def spPlaces (K : PySem.W.Frag) : Sp := fun vs H Q _ => ∃ (m l a : Addr) (n : Nat) (as : List Addr) (qs : List (Str × Int)) (k : Nat), vs = [.ref m, .ref a, .int (k : Int)] ∧ Mch H m l n ∧ n < 600000 ∧ H a = some (.tup (as.map V.ref)) ∧ Prs H as qs ∧ okP qs ∧ 1 ≤ qs.length ∧ qs.length ≤ 3 ∧ 1 ≤ k ∧ k ≤ 16 ∧
  ∀ (p : Addr) (xs : List V) (ds : List PyData) (l' : Addr) (H' : Hp), H' p = some (.tup xs) → DqAll K H' m l' xs ds → Gd big 7500 3 (.tuple ds) → 1 ≤ ds.length → ds.length ≤ 16 → Mch H' m l' (n + 220) → Fr m l l' H H' → Q (.ref p) H'
def spPlacesV (K : PySem.W.Frag) : Sp := fun vs H Q _ => ∃ (m l a : Addr) (n : Nat) (as : List Addr) (qs : List (Str × Int)) (k : Nat), vs = [.ref m, .ref a, .int (k : Int)] ∧ Mch H m l n ∧ n < 600000 ∧ H a = some (.tup (as.map V.ref)) ∧ Prs H as qs ∧ okP qs ∧ 1 ≤ qs.length ∧ qs.length ≤ 3 ∧ 1 ≤ k ∧ k ≤ 16 ∧
  ∀ (p : Addr) (xs : List V) (ds : List PyData) (l' : Addr) (H' : Hp), FrT H' p xs → DqAll K H' m l' xs ds → Gd big 7500 3 (.tuple ds) → 1 ≤ ds.length → ds.length ≤ 16 → (∀ d ∈ ds, plD qs (ds.length : Int) d) → Mch H' m l' (n + 220) → Fr m l l' H H' → Q (.ref p) H'
section
variable {P : Program} {w : World} {K : PySem.W.Frag} {mg : Str → Option Value} {base : Heap} {fN fM : Addr}
abbrev thenOf (s : Stmt) : List Stmt := match s with
  | .If _ b _ _ => b
  | _ => []
abbrev elseOf (s : Stmt) : List Stmt := match s with
  | .If _ _ b _ => b
  | _ => []
abbrev bPlaces : List Stmt := match (defBody sPlaces).getD 2 (.Pass ⟨0, 0, 0, 0⟩) with
  | .For _ _ b _ _ => b
  | _ => []
theorem Stt.wD {K : PySem.W.Frag} {H0 Hb : Hp} {m l0 D W l : Addr} {ws : List Str} {od : Obj} {u acc : List V} {n : Nat} {ds : List PyData} (s : Stt K H0 m l0 D W ws od u l n acc ds Hb) {o : HO} : (upd Hb D o) W = some (.lst (ws.map V.str)) := by
  rw [upd_ne (ne_of s.w s.frz (fun z => nomatch z))]; exact s.w
theorem ok_placesV {f : Addr} {fd fdN fdM : FuncData} (F : Fun K "_law_places" "_law_places" sPlaces f fd) (T : TxtL mg fN fM) (FN : Fun K "_law_next" "_law_next" sNext fN fdN) (bN : Binds K fdN ["m", "many"] [])
    (FM : Fun K "_law_names" "_law_names" sNames fM fdM) (bM : Binds K fdM ["m", "many"] []) : FnOk P w K mg base CX0 3 f fd ["m", "spots", "most"] (spPlacesV K) := by
  have GN : FnOk P w K mg base CX0 2 fN fdN ["m", "many"] spNext := (ok_next FN T.toTxt).mono (by decide)
  have GM : FnOk P w K mg base CX0 2 fM fdM ["m", "many"] spNamesV := ok_namesV FM T.toTxtN FN bN
  refine F.ok scPc (fun vs H Q E h => ?_) (fun cdv A outer s H vs Q E hr h => ?_)
  · obtain ⟨m, l, a, n, as, qs, k, rfl, _⟩ := h
    rfl
  obtain ⟨m, l, a, n, as, qs, k, rfl, M, hn, ha, hp, op, q1, q3, k1, k16, q⟩ := h
  have aM := M.nm ha (fun _ z => nomatch z)
  have aL := M.nl ha (fun _ z => nomatch z)
  have lq := hp.length
  have spot : ∀ {L W : Addr} {ws : List Str} {od : Obj} {u acc : List V} {l1 : Addr} {n1 : Nat} {ds : List PyData} {G : Hp} {o : HO}, H L = none → Stt K H m l L W ws od u l1 n1 acc ds G → (upd G L o) a = some (.tup (as.map V.ref)) := fun hL s => by
    rw [upd_ne (ne_of_none ha hL)]; exact s.F.keep _ _ ha aM aL
  have stE : ∃ t, PSs (cxOf CX0 P w K mg base NPl "_law_places" (defScope sPlaces) f cdv A outer s H E).nox (thenOf (bPlaces.getD 2 (.Pass ⟨0, 0, 0, 0⟩))) t ∧ ∀ (Dn : Ends) (Hb : Hp) (L W : Addr) (ws : List Str) (od : Obj) (u acc : List V) (l1 : Addr) (n1 : Nat) (ds : List PyData) (many back ix way near low : Int) (v2 v11 v12 v13 v14 v15 : Option V),
      H L = none → Stt K H m l L W ws od u l1 n1 acc ds Hb → n1 < 900000 → ws.length = 3 → (∀ y ∈ ws, nmOk y) → acc.length ≤ 20 → 0 ≤ near → 0 ≤ low → low ≤ near → near < many → many ≤ 16 →
      (∀ (v11 v12 v13 v14 v15 : Option V) (od : Obj) (u : List V) (l2 : Addr) (n2 : Nat) (v : V) (d : PyData) (G : Hp), Stt K H m l L W ws od u l2 n2 (acc ++ [v]) (ds ++ [d]) G → PlG qs many d → n2 ≤ n1 + 0 →
        Dn.nx [some (.ref m), some (.ref a), v2, some (.int many), some (.ref W), some (.ref L), some (.int back), some (.int ix), some (.int way), some (.int near), some (.int low), v11, v12, v13, v14, v15] (upd G L (.lst (acc ++ [v])))) →
      t Dn [some (.ref m), some (.ref a), v2, some (.int many), some (.ref W), some (.ref L), some (.int back), some (.int ix), some (.int way), some (.int near), some (.int low), v11, v12, v13, v14, v15] (upd Hb L (.lst acc)) := by
    refine ⟨_, pss_one (ps_expr (pe_bm PySem.F.plainAttrs_list PySem.F.slot_list_append PySem.F.type_list_append mt_append (pv 5) (pa_cons (pe_lock (pe_tup (pa_cons pe_str pa_nil))) pa_nil))), ?_⟩
    intro Dn Hb L W ws od u acc l1 n1 ds many back ix way near low v2 v11 v12 v13 v14 v15 hL S hn1 wl wok al n0 lo0 lon nm m16 nx
    refine ⟨_, rfl, .inl ⟨rfl, _, SqL.of upd_same⟩, L, .lst acc, upd_same, trivial, fun od' => ?_⟩
    rw [upd_upd]
    have s1 := S.relock hL od' acc
    refine ⟨(by show 1 ≤ sizeLine; decide), fun p hp => ?_⟩
    have s2 := s1.grow (Same.upd (o := .tup [.str "end"]) hp)
    refine ⟨s2.frz, L, acc, _, rfl, rfl, upd_same, small1000 (by omega), ?_⟩
    rw [upd_upd]
    exact nx _ _ _ _ _ _ _ _ _ _ _ _ (s2.more (d := .tuple [.str "end"]) (.tup (.inl (.inl upd_same)) (.cons (.str _) .nil))) ⟨end_good, .inl rfl⟩ (Nat.le_refl _)
  have stD : ∃ t, PSs (cxOf CX0 P w K mg base NPl "_law_places" (defScope sPlaces) f cdv A outer s H E).nox (thenOf ((elseOf (bPlaces.getD 2 (.Pass ⟨0, 0, 0, 0⟩))).getD 0 (.Pass ⟨0, 0, 0, 0⟩))) t ∧ ∀ (Dn : Ends) (Hb : Hp) (L W : Addr) (ws : List Str) (od : Obj) (u acc : List V) (l1 : Addr) (n1 : Nat) (ds : List PyData) (many back ix way near low : Int) (v2 v11 v12 v13 v14 v15 : Option V),
      H L = none → Stt K H m l L W ws od u l1 n1 acc ds Hb → n1 < 900000 → ws.length = 3 → (∀ y ∈ ws, nmOk y) → acc.length ≤ 20 → 0 ≤ near → 0 ≤ low → low ≤ near → near < many → many ≤ 16 →
      (∀ (v11 v12 v13 v14 v15 : Option V) (od : Obj) (u : List V) (l2 : Addr) (n2 : Nat) (v : V) (d : PyData) (G : Hp), Stt K H m l L W ws od u l2 n2 (acc ++ [v]) (ds ++ [d]) G → PlG qs many d → n2 ≤ n1 + 3 →
        Dn.nx [some (.ref m), some (.ref a), v2, some (.int many), some (.ref W), some (.ref L), some (.int back), some (.int ix), some (.int way), some (.int near), some (.int low), v11, v12, v13, v14, v15] (upd G L (.lst (acc ++ [v])))) →
      t Dn [some (.ref m), some (.ref a), v2, some (.int many), some (.ref W), some (.ref L), some (.int back), some (.int ix), some (.int way), some (.int near), some (.int low), v11, v12, v13, v14, v15] (upd Hb L (.lst acc)) := by
    refine ⟨_, pss_cons (ps_set (i := 11) scPc.nd rfl (by first | exact Or.inl rfl | exact Or.inr rfl) (pe_ix ix_list (pv 4) (pe_lock (pe_call GN hr (by rfl) T.next FN.kp bN .nil pass0 (pa_cons (pv 0) (pa_cons pe_int pa_nil)))) (fun _ _ => rfl)))
      (pss_one (ps_expr (pe_bm PySem.F.plainAttrs_list PySem.F.slot_list_append PySem.F.type_list_append mt_append (pv 5) (pa_cons (pe_lock (pe_tup (pa_cons pe_str (pa_cons (pv 11) (pa_cons (pe_ifExp (pt_cmpR op_gt (pe_call GN hr (by rfl) T.next FN.kp bN .nil pass0 (pa_cons (pv 0) (pa_cons pe_int pa_nil))) pe_int (nomark _)) (pv 9) (pe_op op_add (pv 10) (pe_call GN hr (by rfl) T.next FN.kp bN .nil pass0 (pa_cons (pv 0) (pa_cons (pe_op op_sub (pv 3) (pv 10)) pa_nil))))) pa_nil))))) pa_nil)))), ?_⟩
    intro Dn Hb L W ws od u acc l1 n1 ds many back ix way near low v2 v11 v12 v13 v14 v15 hL S hn1 wl wok al n0 lo0 lon nm m16 nx
    refine ⟨_, rfl, lk_next hL S (by omega) rfl (by decide) (by decide) (fun _ _ h => h) fun r l2 G r0 r3 s1 => ?_⟩
    obtain ⟨j, rfl⟩ : ∃ j : Nat, r = (j : Int) := ⟨r.toNat, by omega⟩
    obtain ⟨y, hy⟩ : ∃ y, ws[j]? = some y := ⟨_, List.getElem?_eq_getElem (by omega)⟩
    have yo := wok y (List.mem_of_getElem? hy)
    refine ⟨W, _, (j : Int), .str y, rfl, rfl, SqL.of s1.wD, atI_nat (by rw [List.getElem?_map, hy]; rfl), ?_⟩
    refine ⟨_, rfl, .inl ⟨rfl, _, SqL.of upd_same⟩, L, .lst acc, upd_same, trivial, fun od' => ?_⟩
    rw [upd_upd]
    have s2 := s1.relock hL od' acc
    have fin : ∀ (r : Int) (l3 : Addr) (n3 : Nat) (G3 : Hp), 0 ≤ r → r < many → n3 ≤ n1 + 3 → Stt K H m l L W ws od' acc l3 n3 acc ds G3 → ∀ p, G3 p = none → (upd G3 p (.tup [.str "do", .str y, .int r])) L = some (.frz od' (.lst acc)) ∧ ∃ (p1 : Addr) (acc' : List V) (z : V), V.ref L = .ref p1 ∧ [V.ref p] = [z] ∧ (upd (upd G3 p (.tup [.str "do", .str y, .int r])) L (.lst acc)) p1 = some (.lst acc') ∧ acc'.length < sizeLine ∧
        Dn.nx [some (.ref m), some (.ref a), v2, some (.int many), some (.ref W), some (.ref L), some (.int back), some (.int ix), some (.int way), some (.int near), some (.int low), some (.str y), v12, v13, v14, v15] (upd (upd (upd G3 p (.tup [.str "do", .str y, .int r])) L (.lst acc)) p1 (.lst (acc' ++ [z]))) := by
      intro r l3 n3 G3 q0 q1 qn s3 p hp
      have s4 := s3.grow (Same.upd (o := .tup [.str "do", .str y, .int r]) hp)
      refine ⟨s4.frz, L, acc, _, rfl, rfl, upd_same, small1000 (by omega), ?_⟩
      rw [upd_upd]
      exact nx _ _ _ _ _ _ _ _ _ _ _ _ (s4.more (d := .tuple [.str "do", .str y, .int r]) (.tup (.inl (.inl upd_same)) (.cons (.str _) (.cons (.str _) (.cons (.int _) .nil))))) ⟨do_good yo.ok q0 (by omega), .inr (.inl ⟨y, r, rfl, yo, q0, q1⟩)⟩ qn
    refine ⟨_, rfl, _, rfl, m, l2, n1 + 1, 3, rfl, s2.M, by omega, by decide, by decide, fun r5 l3 G3 a5 b5 M3 f3 => ⟨_, _, rfl, rfl, _, rfl, ite_b (fun _ => ?_) (fun _ => ?_)⟩⟩
    · exact ⟨_, rfl, (by show 3 ≤ sizeLine; decide), fin near l3 (n1 + 1 + 1) G3 n0 (by omega) (by omega) (s2.step M3 f3)⟩
    · refine ⟨_, rfl, _, rfl, _, rfl, _, rfl, _, _, rfl, rfl, m, l3, n1 + 1 + 1, many - low, rfl, M3, by omega, by omega, by omega, fun r6 l4 G4 a6 b6 M4 f4 => ⟨low, r6, rfl, rfl, (by show 3 ≤ sizeLine; decide), ?_⟩⟩
      exact fin (low + r6) l4 (n1 + 1 + 1 + 1) G4 (by omega) (by omega) (by omega) ((s2.step M3 f3).step M4 f4)
  have stA : ∃ t, PSs (cxOf CX0 P w K mg base NPl "_law_places" (defScope sPlaces) f cdv A outer s H E).nox (elseOf ((elseOf (bPlaces.getD 2 (.Pass ⟨0, 0, 0, 0⟩))).getD 0 (.Pass ⟨0, 0, 0, 0⟩))) t ∧ ∀ (Dn : Ends) (Hb : Hp) (L W : Addr) (ws : List Str) (od : Obj) (u acc : List V) (l1 : Addr) (n1 : Nat) (ds : List PyData) (many back ix way near low : Int) (v2 v11 v12 v13 v14 v15 : Option V),
      H L = none → Stt K H m l L W ws od u l1 n1 acc ds Hb → n1 < 900000 → ws.length = 3 → (∀ y ∈ ws, nmOk y) → acc.length ≤ 20 → 0 ≤ near → 0 ≤ low → low ≤ near → near < many → many ≤ 16 →
      (∀ (v11 v12 v13 v14 v15 : Option V) (od : Obj) (u : List V) (l2 : Addr) (n2 : Nat) (v : V) (d : PyData) (G : Hp), Stt K H m l L W ws od u l2 n2 (acc ++ [v]) (ds ++ [d]) G → PlG qs many d → n2 ≤ n1 + 9 →
        Dn.nx [some (.ref m), some (.ref a), v2, some (.int many), some (.ref W), some (.ref L), some (.int back), some (.int ix), some (.int way), some (.int near), some (.int low), v11, v12, v13, v14, v15] (upd G L (.lst (acc ++ [v])))) →
      t Dn [some (.ref m), some (.ref a), v2, some (.int many), some (.ref W), some (.ref L), some (.int back), some (.int ix), some (.int way), some (.int near), some (.int low), v11, v12, v13, v14, v15] (upd Hb L (.lst acc)) := by
    refine ⟨_, pss_cons (ps_asg (pe_ix ix_tup (pv 1) (pe_lock (pe_call GN hr (by rfl) T.next FN.kp bN .nil pass0 (pa_cons (pv 0) (pa_cons (pe_callB call_len (by rfl) T.len PySem.boot_len (pa_cons (pv 1) pa_nil)) pa_nil)))) (fun _ _ => rfl)) (pg_tup rfl (pgs_cons (pg_name (i := 12) scPc.nd rfl (by first | exact Or.inl rfl | exact Or.inr rfl)) (pgs_cons (pg_name (i := 13) scPc.nd rfl (by first | exact Or.inl rfl | exact Or.inr rfl)) pgs_nil))))
        (pss_cons (ps_setLc (i := 14) (own := [("k", 15)]) (g := gName 15) (by rfl) scPc.nd rfl (by first | exact Or.inl rfl | exact Or.inr rfl | rfl) (by rfl) (pi_range1 (by rfl) T.range (pa_cons (pe_op op_add (pv 13) pe_int) pa_nil)) (blkOk_by (own := [("k", 15)]) (N := NPl) (sc := defScope sPlaces) (by decide +kernel))
          (fun _ _ _ _ _ => pg_name (i := 15) scPc.nd rfl (by first | exact Or.inl rfl | exact Or.inr rfl)) (fun _ _ _ _ _ => pts_nil) (fun _ _ _ _ _ => pe_ifExp (pt_cmpR op_eq (pe_lock (pe_lock (pe_call GN hr (by rfl) T.next FN.kp bN .nil pass0 (pa_cons (pv 0) (pa_cons pe_int pa_nil))))) pe_int (nomark _)) (pv 9) (pe_op op_add (pv 10) (pe_lock (pe_lock (pe_call GN hr (by rfl) T.next FN.kp bN .nil pass0 (pa_cons (pv 0) (pa_cons (pe_op op_sub (pv 3) (pv 10)) pa_nil))))))))
        (pss_one (ps_expr (pe_bm PySem.F.plainAttrs_list PySem.F.slot_list_append PySem.F.type_list_append mt_append (pv 5) (pa_cons (pe_lock (pe_tup (pa_cons pe_str (pa_cons (pv 12) (pa_cons (pe_callTy call_tuple_of (by rfl) T.tuple (by decide +kernel) (pa_cons (pv 14) pa_nil)) pa_nil))))) pa_nil))))), ?_⟩
    intro Dn Hb L W ws od u acc l1 n1 ds many back ix way near low v2 v11 v12 v13 v14 v15 hL S hn1 wl wok al n0 lo0 lon nm m16 nx
    refine ⟨_, rfl, lk_next (k := as.length) hL S (by omega) rfl (by omega) (by omega) (fun od' Q' h => ⟨_, rfl, .ref a, (as.map V.ref).length, rfl, .inr ⟨_, SqT.of (spot hL S), rfl⟩, by rw [List.length_map]; exact h⟩) fun r l2 G r0 r3 s1 => ?_⟩
    obtain ⟨j, rfl⟩ : ∃ j : Nat, r = (j : Int) := ⟨r.toNat, by omega⟩
    obtain ⟨x, hx⟩ : ∃ x, as[j]? = some x := ⟨_, List.getElem?_eq_getElem (by omega)⟩
    obtain ⟨y, c, hq, hxt⟩ := hp.get hx
    obtain ⟨yo, c1, c3⟩ := op _ (List.mem_of_getElem? hq)
    have hxG : ∀ {o : HO}, (upd G L o) x = some (.tup [.str y, .int c]) := fun {o} => by
      rw [upd_ne (ne_of_none hxt hL)]; exact s1.F.keep _ _ hxt (M.nm hxt (fun _ z => nomatch z)) (M.nl hxt (fun _ z => nomatch z))
    refine ⟨a, _, (j : Int), .ref x, rfl, rfl, SqT.of (spot hL s1), atI_nat (by rw [List.getElem?_map, hx]; rfl), ?_⟩
    refine ⟨x, _, rfl, .inl (.inl hxG), rfl, _, _, rfl, _, _, rfl, rfl, ?_⟩
    refine ⟨_, rfl, _, _, rfl, rfl, c + 1, rfl, by omega, by omega, fun D2 hD2 => ?_⟩
    have nD2 : D2 ≠ L := fun e => by rw [e, upd_same] at hD2; cases hD2
    have gD2 : G D2 = none := by rw [upd_ne nD2] at hD2; exact hD2
    have hD2H : H D2 = none := s1.F.free gD2
    obtain ⟨od0, e0⟩ : ∃ od0 : Obj, od0 = { cls := .none, data := .plain } := ⟨_, rfl⟩
    have sB := s1.grow (Same.upd (o := .frz od0 (.lst [])) gD2)
    refine lc_range (lo := 0) (n := (c + 1).toNat) (fun i H9 => ∃ (G1 : Hp) (l3 : Addr) (od od2 : Obj) (u u2 : List V) (ns : List Int), H9 = upd (upd G1 D2 (.lst (ns.map V.int))) L (.lst acc) ∧ Stt K H m l L W ws od u l3 (n1 + 1 + 2 * i) acc ds G1 ∧ G1 D2 = some (.frz od2 (.lst u2)) ∧ ns.length = i ∧ ∀ x ∈ ns, 0 ≤ x ∧ x < many)
      ⟨upd G D2 (.frz od0 (.lst [])), l2, od, od0, acc, [], [], by rw [upd_upd, upd_two nD2]; rfl, sB, upd_same, rfl, (fun x h => nomatch h)⟩ ?_ ?_
    · rintro i H9 hi ⟨G1, l3, od1, od2, u1, u2, ns, rfl, s3, g3, ln, hns⟩
      have pnt : ∀ (r : Int) (l4 : Addr) (od od2 : Obj) (G4 : Hp) (n4 : Nat), 0 ≤ r → r < many → n4 ≤ n1 + 1 + 2 * (i + 1) → Stt K H m l L W ws od acc l4 n4 acc ds G4 → G4 D2 = some (.frz od2 (.lst (ns.map V.int))) → ∃ acc', (upd (upd G4 D2 (.lst (ns.map V.int))) L (.lst acc)) D2 = some (.lst acc') ∧ acc'.length < sizeLine ∧
          ∃ (G1 : Hp) (l3 : Addr) (od od2 : Obj) (u u2 : List V) (ms : List Int), upd (upd (upd G4 D2 (.lst (ns.map V.int))) L (.lst acc)) D2 (.lst (acc' ++ [V.int r])) = upd (upd G1 D2 (.lst (ms.map V.int))) L (.lst acc) ∧ Stt K H m l L W ws od u l3 (n1 + 1 + 2 * (i + 1)) acc ds G1 ∧ G1 D2 = some (.frz od2 (.lst u2)) ∧ ms.length = i + 1 ∧ ∀ x ∈ ms, 0 ≤ x ∧ x < many := by
        intro r l4 od od2 G4 n4 q0 q1 qn s4 g4
        refine ⟨ns.map V.int, by rw [upd_ne nD2, upd_same], small1000 (by rw [List.length_map]; omega), G4, l4, od, od2, acc, _, ns ++ [r], ?_, s4.mono qn, g4, by simp [ln], fun x hx => ?_⟩
        · rw [← upd_two nD2, upd_upd, List.map_append]; rfl
        · rcases List.mem_append.mp hx with hx | hx
          · exact hns x hx
          · rw [List.mem_singleton.mp hx]; exact ⟨q0, q1⟩
      refine ⟨rfl, tyes ?_⟩
      delta tIf tTest tOp
      refine lk2_next hL hD2H nD2 s3 g3 (k := 3) (by omega) rfl (by decide) (by decide) (fun _ _ h => h) fun r l4 od4 od5 G4 a4 b4 s4 g4 => ⟨rfl, _, rfl, ite_b (fun _ => ?_) (fun _ => ?_)⟩
      · obtain ⟨acc', e1, e2, G1, l3, odx, ody, ux, uy, nsx, e3, e4, e5, e6, e7⟩ := pnt near l4 od4 od5 G4 _ n0 (by omega) (by omega) s4 g4
        exact ⟨_, rfl, acc', e1, e2, G1, l3, odx, ody, ux, uy, nsx, e3, e4, e5, e6, e7⟩
      · refine ⟨_, rfl, lk2_next hL hD2H nD2 s4 g4 (k := many - low) (by omega) rfl (by omega) (by omega) (fun _ _ h => ⟨_, rfl, _, rfl, _, _, rfl, rfl, h⟩) fun r6 l5 od6 od7 G5 a6 b6 s5 g5 => ⟨low, r6, rfl, rfl, ?_⟩⟩
        obtain ⟨acc', e1, e2, G1, l3, odx, ody, ux, uy, nsx, e3, e4, e5, e6, e7⟩ := pnt (low + r6) l5 od6 od7 G5 _ (by omega) (by omega) (by omega) s5 g5
        exact ⟨acc', e1, e2, G1, l3, odx, ody, ux, uy, nsx, e3, e4, e5, e6, e7⟩
    · rintro H9 ⟨G1, l3, od1, od2, u1, u2, ns, rfl, s3, g3, ln, hns⟩
      refine ⟨_, rfl, .inl ⟨rfl, _, SqL.of upd_same⟩, L, .lst acc, upd_same, trivial, fun od' => ?_⟩
      rw [upd_upd]
      have s4 := (s3.other g3 nD2 hD2H (.lst (ns.map V.int))).relock hL od' acc
      have gd : (upd (upd G1 D2 (.lst (ns.map V.int))) L (.frz od' (.lst acc))) D2 = some (.lst (ns.map V.int)) := by rw [upd_ne nD2, upd_same]
      refine ⟨_, rfl, _, rfl, D2, _, rfl, .inl ⟨SqL.of gd, fun p hp => ?_⟩⟩
      have s5 := s4.grow (Same.upd (o := .tup (ns.map V.int)) hp)
      refine ⟨(by show 3 ≤ sizeLine; decide), fun p2 hp2 => ?_⟩
      have s6 := s5.grow (Same.upd (o := .tup [.str "ask", .str y, .ref p]) hp2)
      have np : p ≠ p2 := fun e => by rw [← e, upd_same] at hp2; cases hp2
      refine ⟨s6.frz, L, acc, _, rfl, rfl, upd_same, small1000 (by omega), ?_⟩
      rw [upd_upd]
      refine nx _ _ _ _ _ _ _ _ _ _ _ _ (s6.more (d := .tuple [.str "ask", .str y, .tuple (ns.map .int)]) ?_) ⟨ask_good yo (fun x hx => ⟨(hns x hx).1, by have := (hns x hx).2; omega⟩) (by omega), .inr (.inr ⟨(y, c), List.mem_of_getElem? hq, ns, rfl, by show (ns.length : Int) = c + 1; omega, hns⟩)⟩ (by omega)
      exact .tup (.inl (.inl upd_same)) (.cons (.str _) (.cons (.str _) (.cons (.tup (.inl (.inl (by rw [upd_ne np, upd_same]))) (ints_dq ns)) .nil)))
  have stIf : ∃ t, PSs (cxOf CX0 P w K mg base NPl "_law_places" (defScope sPlaces) f cdv A outer s H E).nox (bPlaces.drop 2) t ∧ ∀ (Dn : Ends) (Hb : Hp) (L W : Addr) (ws : List Str) (od : Obj) (u acc : List V) (l1 : Addr) (n1 : Nat) (ds : List PyData) (many back ix way near low : Int) (v2 v11 v12 v13 v14 v15 : Option V),
      H L = none → Stt K H m l L W ws od u l1 n1 acc ds Hb → n1 < 800000 → ws.length = 3 → (∀ y ∈ ws, nmOk y) → acc.length ≤ 20 → 0 ≤ near → 0 ≤ low → low ≤ near → near < many → many ≤ 16 →
      (∀ (v11 v12 v13 v14 v15 : Option V) (od : Obj) (u : List V) (l2 : Addr) (n2 : Nat) (v : V) (d : PyData) (G : Hp), Stt K H m l L W ws od u l2 n2 (acc ++ [v]) (ds ++ [d]) G → PlG qs many d → n2 ≤ n1 + 10 →
        Dn.nx [some (.ref m), some (.ref a), v2, some (.int many), some (.ref W), some (.ref L), some (.int back), some (.int ix), some (.int way), some (.int near), some (.int low), v11, v12, v13, v14, v15] (upd G L (.lst (acc ++ [v])))) →
      t Dn [some (.ref m), some (.ref a), v2, some (.int many), some (.ref W), some (.ref L), some (.int back), some (.int ix), some (.int way), some (.int near), some (.int low), v11, v12, v13, v14, v15] (upd Hb L (.lst acc)) := by
    obtain ⟨tE, dE, zE⟩ := stE
    obtain ⟨tD, dD, zD⟩ := stD
    obtain ⟨tA, dA, zA⟩ := stA
    refine ⟨_, pss_one (ps_if (PW.pt (pw_or (pt_cmpR op_eq (pv 8) pe_int (nomark _)) (pw_or1 (PW.pt (pw_and (pt_cmpR op_eq (pv 7) (pe_op op_sub (pv 3) pe_int) (nomark _)) (pw_and1 (PW.pt (pw_or (pt_cmpR op_eq (pv 6) pe_int (nomark _)) (pw_or1 (pt_cmpR op_gt (pe_lock (pe_call GN hr (by rfl) T.next FN.kp bN .nil pass0 (pa_cons (pv 0) (pa_cons pe_int pa_nil)))) pe_int (nomark _))))))))))) dE (pss_one (ps_if (pt_cmpR op_lt (pv 8) pe_int (nomark _)) dD dA))), ?_⟩
    intro Dn Hb L W ws od u acc l1 n1 ds many back ix way near low v2 v11 v12 v13 v14 v15 hL S hn1 wl wok al n0 lo0 lon nm m16 nx
    have rest : ∀ (od : Obj) (u : List V) (l2 : Addr) (n2 : Nat) (G : Hp), Stt K H m l L W ws od u l2 n2 acc ds G → n2 ≤ n1 + 1 → tIfS (tTest (tOp (rI0 fun i j => V.bl (decide (i < j))) (tVar 8) (tC (V.int 4)))) tD tA Dn [some (.ref m), some (.ref a), v2, some (.int many), some (.ref W), some (.ref L), some (.int back), some (.int ix), some (.int way), some (.int near), some (.int low), v11, v12, v13, v14, v15] (upd G L (.lst acc)) := by
      intro od u l2 n2 G S2 h2
      refine ⟨_, rfl, _, _, rfl, rfl, _, rfl, ite_b (fun _ => ?_) (fun _ => ?_)⟩
      · exact zD Dn G L W ws od u acc l2 n2 ds many back ix way near low v2 v11 v12 v13 v14 v15 hL S2 (by omega) wl wok al n0 lo0 lon nm m16 fun v11 v12 v13 v14 v15 od u l3 n3 v d G s g h => nx v11 v12 v13 v14 v15 od u l3 n3 v d G s g (by omega)
      · exact zA Dn G L W ws od u acc l2 n2 ds many back ix way near low v2 v11 v12 v13 v14 v15 hL S2 (by omega) wl wok al n0 lo0 lon nm m16 fun v11 v12 v13 v14 v15 od u l3 n3 v d G s g h => nx v11 v12 v13 v14 v15 od u l3 n3 v d G s g (by omega)
    have endd : ∀ (od : Obj) (u : List V) (l2 : Addr) (n2 : Nat) (G : Hp), Stt K H m l L W ws od u l2 n2 acc ds G → n2 ≤ n1 + 1 → tE Dn [some (.ref m), some (.ref a), v2, some (.int many), some (.ref W), some (.ref L), some (.int back), some (.int ix), some (.int way), some (.int near), some (.int low), v11, v12, v13, v14, v15] (upd G L (.lst acc)) := fun od u l2 n2 G S2 h2 =>
      zE Dn G L W ws od u acc l2 n2 ds many back ix way near low v2 v11 v12 v13 v14 v15 hL S2 (by omega) wl wok al n0 lo0 lon nm m16 fun v11 v12 v13 v14 v15 od u l3 n3 v d G s g h => nx v11 v12 v13 v14 v15 od u l3 n3 v d G s g (by omega)
    refine ⟨_, rfl, rfl, _, rfl, ite_b (fun _ => ifT rfl (endd _ _ _ _ _ S (by omega))) (fun _ => ?_)⟩
    refine ⟨_, rfl, _, rfl, _, _, rfl, rfl, rfl, _, rfl, ite_b (fun _ => ?_) (fun _ => ifF rfl (rest _ _ _ _ _ S (by omega)))⟩
    refine ⟨_, rfl, rfl, _, rfl, ite_b (fun _ => ifT rfl (endd _ _ _ _ _ S (by omega))) (fun _ => ?_)⟩
    delta tTest tOp
    refine lk_next (k := 4) hL S (by omega) rfl (by decide) (by decide) (fun _ _ h => h) fun r l2 G r0 r3 s1 => ⟨_, _, rfl, rfl, _, rfl, ?_⟩
    by_cases e : (0 : Int) < r
    · exact ifT (decide_eq_true e) (endd _ _ _ _ _ s1 (Nat.le_refl _))
    · exact ifF (decide_eq_false e) (rest _ _ _ _ _ s1 (Nat.le_refl _))
  have stB : ∃ t, PSs (cxOf CX0 P w K mg base NPl "_law_places" (defScope sPlaces) f cdv A outer s H E).nox bPlaces t ∧ ∀ (Dn : Ends) (Hb : Hp) (L W : Addr) (ws : List Str) (od : Obj) (u acc : List V) (l1 : Addr) (n1 : Nat) (ds : List PyData) (many back ix : Int) (v2 v8 v9 v10 v11 v12 v13 v14 v15 : Option V),
      H L = none → Stt K H m l L W ws od u l1 n1 acc ds Hb → n1 < 700000 → ws.length = 3 → (∀ y ∈ ws, nmOk y) → acc.length ≤ 20 → 0 ≤ ix → ix < many → many ≤ 16 → (back = 0 ∨ back = 1) →
      (∀ (v8b v9b v10b v11b v12b v13b v14b v15b : Option V) (od : Obj) (u : List V) (l2 : Addr) (n2 : Nat) (v : V) (d : PyData) (G : Hp), Stt K H m l L W ws od u l2 n2 (acc ++ [v]) (ds ++ [d]) G → PlG qs many d → n2 ≤ n1 + 11 →
        Dn.nx [some (.ref m), some (.ref a), v2, some (.int many), some (.ref W), some (.ref L), some (.int back), some (.int ix), v8b, v9b, v10b, v11b, v12b, v13b, v14b, v15b] (upd G L (.lst (acc ++ [v])))) →
      t Dn [some (.ref m), some (.ref a), v2, some (.int many), some (.ref W), some (.ref L), some (.int back), some (.int ix), v8, v9, v10, v11, v12, v13, v14, v15] (upd Hb L (.lst acc)) := by
    obtain ⟨tI, dI, zI⟩ := stIf
    refine ⟨_, pss_cons (ps_asg (pe_lock (pe_tup (pa_cons (pe_call GN hr (by rfl) T.next FN.kp bN .nil pass0 (pa_cons (pv 0) (pa_cons pe_int pa_nil))) (pa_cons (pe_callB (call_min2 rfl) (by rfl) T.min (by decide +kernel) (pa_cons (pe_op op_add (pv 7) pe_int) (pa_cons (pe_op op_sub (pv 3) pe_int) pa_nil))) pa_nil)))) (pg_tup rfl (pgs_cons (pg_name (i := 8) scPc.nd rfl (by first | exact Or.inl rfl | exact Or.inr rfl)) (pgs_cons (pg_name (i := 9) scPc.nd rfl (by first | exact Or.inl rfl | exact Or.inr rfl)) pgs_nil))))
      (pss_cons (ps_set (i := 10) scPc.nd rfl (by first | exact Or.inl rfl | exact Or.inr rfl) (pe_op op_mul (pv 9) (pe_op op_sub pe_int (pv 6)))) dI), ?_⟩
    intro Dn Hb L W ws od u acc l1 n1 ds many back ix v2 v8 v9 v10 v11 v12 v13 v14 v15 hL S hn1 wl wok al i0 im m16 hb nx
    refine ⟨L, .lst acc, upd_same, trivial, fun od' => ?_⟩
    rw [upd_upd]
    have s1 := S.relock hL od' acc
    refine ⟨_, rfl, m, l1, n1, 7, rfl, s1.M, by omega, by decide, by decide, fun r l2 G r0 r7 M2 f2 => ?_⟩
    have s2 := s1.step M2 f2
    refine ⟨_, rfl, _, _, rfl, rfl, _, rfl, _, _, rfl, rfl, ix + 1, many - 1, rfl, (by show 2 ≤ sizeLine; decide), fun p hp => ?_⟩
    obtain ⟨near, hne⟩ : ∃ near : Int, near = if many - 1 < ix + 1 then many - 1 else ix + 1 := ⟨_, rfl⟩
    rw [← hne]
    have nb : 0 ≤ near ∧ near < many := by rw [hne]; split <;> omega
    have s3 := s2.grow (Same.upd (o := .tup [.int r, .int near]) hp)
    have gp : (upd (upd G p (.tup [.int r, .int near])) L (.lst acc)) p = some (.tup [.int r, .int near]) := by
      rw [upd_ne (fun e => by rw [e] at hp; exact absurd (s2.frz.symm.trans hp) (fun z => nomatch z)), upd_same]
    refine ⟨s3.frz, p, _, rfl, .inl (.inl gp), rfl, _, _, rfl, _, _, rfl, rfl, ?_⟩
    refine ⟨_, rfl, _, rfl, _, _, rfl, rfl, _, _, rfl, rfl, .inl ⟨by omega, by omega⟩, ?_⟩
    have lb : 0 ≤ near * (1 - back) ∧ near * (1 - back) ≤ near := by
      rcases hb with rfl | rfl
      · rw [show near * (1 - 0) = near by omega]; omega
      · rw [show near * (1 - 1) = 0 by omega]; omega
    refine zI Dn _ L W ws od' acc acc l2 (n1 + 1) ds many back ix r near (near * (1 - back)) v2 _ _ _ _ _ hL s3 (by omega) wl wok al nb.1 lb.1 lb.2 nb.2 m16 fun _ _ _ _ _ od u l3 n3 v d G s g h => nx _ _ _ _ _ _ _ _ _ _ _ _ _ _ _ s g (by omega)
  obtain ⟨tB, dB, zB⟩ := stB
  refine ⟨_, pss_cons (ps_asg (pe_tup (pa_cons (pe_op op_add pe_int (pe_call GN hr (by rfl) T.next FN.kp bN .nil pass0 (pa_cons (pv 0) (pa_cons (pv 2) pa_nil)))) (pa_cons (pe_call GM hr (by rfl) T.names FM.kp bM .nil pass0 (pa_cons (pv 0) (pa_cons pe_int pa_nil))) pa_nil))) (pg_tup rfl (pgs_cons (pg_name (i := 3) scPc.nd rfl (by first | exact Or.inl rfl | exact Or.inr rfl)) (pgs_cons (pg_name (i := 4) scPc.nd rfl (by first | exact Or.inl rfl | exact Or.inr rfl)) pgs_nil))))
    (pss_cons (ps_par (i := 5) (j := 6) (by rfl) scPc.nd rfl rfl (by decide) rfl rfl (pa_cons (pe_lst pa_nil) (pa_cons (pe_lock (pe_call GN hr (by rfl) T.next FN.kp bN .nil pass0 (pa_cons (pv 0) (pa_cons pe_int pa_nil)))) pa_nil)) (by rfl))
    (pss_cons (ps_for PassesOwn.never rfl (pi_range1 (by rfl) T.range (pa_cons (pv 3) pa_nil)) (pg_name (i := 7) scPc.nd rfl (by first | exact Or.inl rfl | exact Or.inr rfl)) dB)
    (pss_one (ps_ret (pe_callTy call_tuple_ofF (by rfl) T.tuple (by decide +kernel) (pa_cons (pv 5) pa_nil)))))), ?_⟩
  refine ⟨_, rfl, _, rfl, m, l, n, (k : Int), rfl, M, by omega, by omega, by omega, fun r l1 H1 r0 r1 M1 f1 => ⟨1, r, rfl, rfl, ?_⟩⟩
  refine ⟨_, rfl, m, l1, n + 1, 3, rfl, M1, by omega, by decide, by decide, fun W ws l2 H2 hW gW wl wn wok nm nl M2 f2 => ?_⟩
  refine ⟨(by show 2 ≤ sizeLine; decide), fun p3 h3 => ⟨p3, _, rfl, .inl (.inl upd_same), rfl, _, _, rfl, _, _, rfl, rfl, ?_⟩⟩
  obtain ⟨G3, e3⟩ : ∃ G3, G3 = upd H2 p3 (.tup [.int (1 + r), .ref W]) := ⟨_, rfl⟩
  have s3 : Same H2 G3 := e3 ▸ Same.upd h3
  have F3 : Fr m l l2 H G3 := e3 ▸ (f1.trans f2).junk h3
  rw [← e3]
  refine ⟨(by show 0 ≤ sizeLine; decide), fun L hL => ?_⟩
  have hLH : H L = none := F3.free hL
  obtain ⟨od0, e0⟩ : ∃ od0 : Obj, od0 = { cls := .none, data := .plain } := ⟨_, rfl⟩
  have s0 : Stt K H m l L W ws od0 [] l2 (n + 1 + 11) [] [] (upd G3 L (.frz od0 (.lst []))) :=
    ⟨upd_same, (M2.same s3).same (Same.upd hL), F3.junk hL, (Same.upd hL) _ _ (s3 _ _ gW), nl, .nil⟩
  have e4 : upd G3 L (.lst []) = upd (upd G3 L (.frz od0 (.lst []))) L (.lst []) := (upd_upd ..).symm
  rw [e4]
  refine lk_next (k := 2) hLH s0 (by omega) rfl (by decide) (by decide) (fun _ _ h => h) fun r2 l3 G4 a2 b2 s4 => ?_
  refine ⟨_, _, rfl, ?_⟩
  refine ⟨_, rfl, _, rfl, by omega, by omega, ?_⟩
  refine for_range (lo := 0) (n := (1 + r).toNat) (fun i σ H2 => ∃ (G : Hp) (l2 : Addr) (od : Obj) (u acc : List V) (n2 : Nat) (ds : List PyData) (v7 v8 v9 v10 v11 v12 v13 v14 v15 : Option V), σ = [some (.ref m), some (.ref a), some (.int (k : Int)), some (.int (1 + r)), some (.ref W), some (.ref L), some (.int r2), v7, v8, v9, v10, v11, v12, v13, v14, v15] ∧ H2 = upd G L (.lst acc) ∧
      Stt K H m l L W ws od u l2 n2 acc ds G ∧ n2 ≤ n + 13 + 11 * i ∧ acc.length = i ∧ Gl' big (461 * i) 2 ds ∧ ∀ d ∈ ds, plD qs (1 + r) d)
    ⟨_, l3, _, _, [], _, [], _, _, _, _, _, _, _, _, _, rfl, rfl, s4, by omega, rfl, ⟨(fun d h => nomatch h), Nat.le_refl _, (fun d h => nomatch h)⟩, (fun d h => nomatch h)⟩ ?_ ?_
  · rintro i σ H2 hi ⟨G, l4, od, u, acc, n2, ds, v7, v8, v9, v10, v11, v12, v13, v14, v15, rfl, rfl, s6, h6, al, gl, pd⟩
    refine zB _ G L W ws od u acc l4 n2 ds (1 + r) r2 (0 + (i : Int)) _ v8 v9 v10 v11 v12 v13 v14 v15 hLH s6 (by omega) wl (fun y hy => wok y hy) (by omega) (by omega) (by omega) (by omega) (by omega) ?_
    intro v8 v9 v10 v11 v12 v13 v14 v15 od u l5 n5 v d G5 s7 gd h7
    exact ⟨G5, l5, od, u, _, n5, _, _, v8, v9, v10, v11, v12, v13, v14, v15, rfl, rfl, s7, by omega, by simp [al], (gl.app (Gl'.one gd.1)).mono (Nat.le_refl _) (by omega) (Nat.le_refl _), fun d' hd' => (List.mem_append.mp hd').elim (pd d') (fun h => by rw [List.mem_singleton.mp h]; exact gd.2)⟩
  · rintro σ H2 ⟨G, l4, od, u, acc, n2, ds, v7, v8, v9, v10, v11, v12, v13, v14, v15, rfl, rfl, s6, h6, al, gl, pd⟩
    refine ⟨_, rfl, L, acc, rfl, SqL.of upd_same, fun p ob hp hob => ?_⟩
    have sp : Same (upd G L (.lst acc)) (upd (upd G L (.lst acc)) p (.frz ob (.tup acc))) := Same.upd hp
    have ld := s6.it.len
    have ed : (1 + r : Int) = (ds.length : Int) := by omega
    have pd' : ∀ d ∈ ds, plD qs (ds.length : Int) d := fun d hd => by rw [← ed]; exact pd d hd
    exact q p acc ds l4 _ ⟨ob, upd_same, hob⟩ (DqAll.same sp _ _ (DqAll.unlock s6.frz s6.it)) ((Gd.tup gl).mono (Nat.le_refl _) (by omega) (Nat.le_refl _)) (by omega) (by omega) pd' (((Mch.unlock s6.frz s6.M).same sp).mono (by omega)) ((s6.F.relock hLH).junk hp)
end
end Ms
namespace Ms
open PySem PySem.Spec PyProof.Rows L2
/-! ### _law_modes -/
abbrev NMd : List Str := ["m", "spots", "spot"]
theorem scMd : FnScope NMd ["m", "spots"] (defScope sModes) := ⟨rfl, rfl, rfl, by decide +kernel, rfl, by decide +kernel, by decide +kernel⟩
def spModes (K : PySem.W.Frag) : Sp := fun vs H Q _ => ∃ (m l a : Addr) (n : Nat) (as : List Addr), vs = [.ref m, .ref a] ∧ Mch H m l n ∧ n < 600000 ∧ H a = some (.tup (as.map V.ref)) ∧ as.length ≤ 3 ∧
  ∀ (p : Addr) (zs : List Str) (l' : Addr) (H' : Hp), H' p = some (.tup (zs.map V.str)) → zs.length = as.length → (∀ z ∈ zs, z ∈ (["live", "met", "begin"] : List Str)) → Mch H' m l' (n + 3) → Fr m l l' H H' → Q (.ref p) H'
theorem md_at {r : Int} (h0 : 0 ≤ r) (h1 : r < 4) : ∃ z : Str, atI ([.str "live", .str "live", .str "met", .str "begin"] : List V) r = some (.str z) ∧ z ∈ (["live", "met", "begin"] : List Str) := by
  obtain ⟨j, rfl⟩ : ∃ j : Nat, r = (j : Int) := ⟨r.toNat, by omega⟩
  have hj : j < 4 := by omega
  match j, hj with
  | 0, _ => exact ⟨"live", rfl, by decide⟩
  | 1, _ => exact ⟨"live", rfl, by decide⟩
  | 2, _ => exact ⟨"met", rfl, by decide⟩
  | 3, _ => exact ⟨"begin", rfl, by decide⟩
section
variable {P : Program} {w : World} {K : PySem.W.Frag} {mg : Str → Option Value} {base : Heap} {fN fM : Addr}
theorem ok_modes {f : Addr} {fd fdN : FuncData} (F : Fun K "_law_modes" "_law_modes" sModes f fd) (T : TxtS mg fN fM) (FN : Fun K "_law_next" "_law_next" sNext fN fdN) (bN : Binds K fdN ["m", "many"] []) : FnOk P w K mg base CX0 2 f fd ["m", "spots"] (spModes K) := by
  have GN : FnOk P w K mg base CX0 1 fN fdN ["m", "many"] spNext := ok_next FN T.toTxt
  refine F.ok scMd (fun vs H Q E h => ?_) (fun cdv A outer s H vs Q E hr h => ?_)
  · obtain ⟨m, l, a, n, as, rfl, _⟩ := h
    rfl
  obtain ⟨m, l, a, n, as, rfl, M, hn, ha, h3, q⟩ := h
  refine ⟨_, pss_one (ps_ret (pe_callTy call_tuple_of (by rfl) T.tuple (by decide +kernel) (pa_cons (pe_lc (own := [("spot", 2)]) (g := gName 2) (by rfl) scMd.nd (pi_tup (pv 1)) (blkOk_by (own := [("spot", 2)]) (N := NMd) (sc := defScope sModes) (by decide +kernel))
    (fun _ _ _ _ _ => pg_name (i := 2) scMd.nd rfl (by first | exact Or.inl rfl | exact Or.inr rfl)) (fun _ _ _ _ _ => pts_nil) (fun _ _ _ _ _ => pe_lock (pe_ix (show IxR _ (rIxL K) from ix_list) (pe_lst (pa_cons pe_str (pa_cons pe_str (pa_cons pe_str (pa_cons pe_str pa_nil))))) (pe_call GN hr (by rfl) T.next FN.kp bN .nil pass0 (pa_cons (pv 0) (pa_cons pe_int pa_nil))) (fun _ _ => rfl)))) pa_nil))), ?_⟩
  refine ⟨_, rfl, a, rfl, ⟨_, SqT.of ha⟩, fun D hD => ?_⟩
  have aM := M.nm ha (fun _ z => nomatch z)
  have aL := M.nl ha (fun _ z => nomatch z)
  have nD := M.ne hD
  obtain ⟨od0, e0⟩ : ∃ od0 : Obj, od0 = { cls := .none, data := .plain } := ⟨_, rfl⟩
  refine lc_it (walk_tup (xs := as.map V.ref)) (fun i H3 => ∃ (Hb : Hp) (od : Obj) (u : List V) (zs : List Str) (l2 : Addr), H3 = upd Hb D (.lst (zs.map V.str)) ∧ Hb D = some (.frz od (.lst u)) ∧ Mch Hb m l2 (n + i) ∧ Fr m l l2 H Hb ∧ zs.length = i ∧ ∀ z ∈ zs, z ∈ (["live", "met", "begin"] : List Str))
    ⟨upd H D (.frz od0 (.lst [])), od0, [], [], l, by rw [upd_upd]; rfl, upd_same, M.same (Same.upd hD), (Fr.refl M).junk hD, rfl, (fun z h => nomatch h)⟩ (fun i H3 _ ⟨Hb, od, u, zs, l2, e3, g, M3, f3, _⟩ => SqT.of (by rw [e3, upd_ne (ne_of_none ha hD)]; exact f3.keep _ _ ha aM aL)) ?_ ?_
  · rintro i x H3 H4 hi ⟨Hb, od, u, zs, l2, rfl, g, M3, f3, zl, zo⟩ ⟨rfl, hx⟩
    rw [List.length_map] at hi
    refine ⟨rfl, tyes ⟨D, .lst (zs.map V.str), upd_same, trivial, fun od' => ?_⟩⟩
    rw [upd_upd]
    have M4 : Mch (upd Hb D (.frz od' (.lst (zs.map V.str)))) m l2 (n + i) := Mch.unlock g M3
    have f4 := f3.relock (o := .frz od' (.lst (zs.map V.str))) hD
    refine ⟨(by show 4 ≤ sizeLine; decide), fun p hp => ?_⟩
    have sp : Same (upd Hb D (.frz od' (.lst (zs.map V.str)))) (upd (upd Hb D (.frz od' (.lst (zs.map V.str)))) p (.lst [.str "live", .str "live", .str "met", .str "begin"])) := Same.upd hp
    have np := M4.ne hp
    refine ⟨_, rfl, m, l2, n + i, 4, rfl, M4.same sp, by omega, by decide, by decide, fun r l5 H5 r0 r4 M5 f5 => ?_⟩
    obtain ⟨z, hz, zk⟩ := md_at r0 r4
    have g5 : H5 D = some (.frz od' (.lst (zs.map V.str))) := f5.keep _ _ (sp _ _ upd_same) (M4.nm upd_same (fun _ z => nomatch z)) (M4.nl upd_same (fun _ z => nomatch z))
    refine ⟨p, _, r, .str z, rfl, rfl, SqL.of (f5.keep _ _ upd_same np.1 np.2), hz, g5, zs.map V.str, upd_same, small1000 (by rw [List.length_map]; omega), H5, od', _, zs ++ [z], l5, ?_, g5, M5, f4.trans (Fr.lead sp f5), by simp [zl], fun y hy => ?_⟩
    · rw [upd_upd, List.map_append]; rfl
    · rcases List.mem_append.mp hy with hy | hy
      · exact zo y hy
      · rw [List.mem_singleton.mp hy]; exact zk
  · rintro H3 ⟨Hb, od, u, zs, l2, rfl, g, M3, f3, zl, zo⟩
    rw [List.length_map] at zl M3
    refine ⟨D, _, rfl, .inl ⟨SqL.of upd_same, fun p hp => ?_⟩⟩
    have sp : Same (upd Hb D (.lst (zs.map V.str))) (upd (upd Hb D (.lst (zs.map V.str))) p (.tup (zs.map V.str))) := Same.upd hp
    exact q p zs l2 _ upd_same zl zo (((Mch.unlock g M3).same sp).mono (by omega)) ((f3.relock hD).junk hp)
end
end Ms
namespace Ms
open PySem PySem.Spec PyProof.Rows L2 LamX StX
/-! ### law k06: the draws of a turn -/
theorem FrT.at6 {H : Hp} {a : Addr} {xs : List V} (h : FrT H a xs) : TupAt H a xs := let ⟨ob, h, _⟩ := h; .inr ⟨ob, h⟩
theorem Kept.at6 {H H' : Hp} {m l l' a : Addr} {xs : List V} (k : Kept m l l' H H') (h : TupAt H a xs) : TupAt H' a xs := by
  obtain ⟨z1, e1⟩ := k.am
  obtain ⟨z2, e2⟩ := k.al
  rcases h with h | ⟨ob, h⟩
  · exact .inl (k.keep a _ h (ne_of h e1 (by intro z; cases z)) (ne_of h e2 (by intro z; cases z)))
  · exact .inr ⟨ob, k.keep a _ h (ne_of h e1 (by intro z; cases z)) (ne_of h e2 (by intro z; cases z))⟩
theorem TupAt.same {H H' : Hp} {p : Addr} {xs : List V} (s : Same H H') (h : TupAt H p xs) : TupAt H' p xs := h.ext (Same.toN s)
/-- the first or the second of two, told -/
structure PcAt (K : PySem.W.Frag) (H : Hp) (m l : Addr) (ys : List (Str × Int)) (p : Addr) (xs : List V) (ds : List PyData) : Prop where
  at_ : TupAt H p xs
  dq : DqAll K H m l xs ds
  gd : Gd big 7500 3 (.tuple ds)
  l1 : 1 ≤ ds.length
  l16 : ds.length ≤ 16
  pl : ∀ d ∈ ds, plD ys (ds.length : Int) d
structure MdAt (H : Hp) (k : Nat) (p : Addr) (zs : List Str) : Prop where
  at_ : TupAt H p (zs.map V.str)
  len : zs.length = k
  mem : ∀ z ∈ zs, z ∈ (["live", "met", "begin"] : List Str)
section
variable {K : PySem.W.Frag} {H H' : Hp} {m l l' : Addr} {ys : List (Str × Int)} {p : Addr} {xs : List V} {ds : List PyData} {zs : List Str} {k : Nat}
theorem PcAt.same (s : Same H H') (h : PcAt K H m l ys p xs ds) : PcAt K H' m l ys p xs ds := ⟨h.at_.same s, DqAll.same s _ _ h.dq, h.gd, h.l1, h.l16, h.pl⟩
theorem PcAt.step (k : Kept m l l' H H') (h : PcAt K H m l ys p xs ds) : PcAt K H' m l' ys p xs ds := ⟨k.at6 h.at_, DqAll.step k _ _ h.dq, h.gd, h.l1, h.l16, h.pl⟩
theorem MdAt.same (s : Same H H') (h : MdAt H k p zs) : MdAt H' k p zs := ⟨h.at_.same s, h.len, h.mem⟩
theorem MdAt.step (q : Kept m l l' H H') (h : MdAt H k p zs) : MdAt H' k p zs := ⟨q.at6 h.at_, h.len, h.mem⟩
end
section
variable {P : Program} {w : World} {K : PySem.W.Frag} {mg : Str → Option Value} {base : Heap} {fN fSe fPc fMd fR C CS CP CM CI fTo f c Pk Pl : Addr} {fdN fdS fdPc fdMd fdR : FuncData} {s : Shared} {H0 : Hp} {Eb : XK}
theorem law_head {tT : TS} (T0 : Txt mg) (hnext : mg "_law_next" = some (.ref fN)) (FN : Fun K "_law_next" "_law_next" sNext fN fdN) (bN : Binds K fdN ["m", "many"] []) (G : G6 mg fTo C CM CI) (RC : ReqC K C) (gSe : mg "_law_settings" = some (.ref fSe)) (gPc : mg "_law_places" = some (.ref fPc)) (gMd : mg "_law_modes" = some (.ref fMd)) (MkC : Mk K C fR)
    (FS : Fun K "_law_settings" "_law_settings" sSettings fSe fdS) (bS : Binds K fdS ["m"] []) (GS : FnOk P w K mg base CX0 3 fSe fdS ["m"] spSettingsV)
    (FPc : Fun K "_law_places" "_law_places" sPlaces fPc fdPc) (bPc : Binds K fdPc ["m", "spots", "most"] []) (GPc : FnOk P w K mg base CX0 3 fPc fdPc ["m", "spots", "most"] (spPlacesV K))
    (FMd : Fun K "_law_modes" "_law_modes" sModes fMd fdMd) (bMd : Binds K fdMd ["m", "spots"] []) (GMd : FnOk P w K mg base CX0 2 fMd fdMd ["m", "spots"] (spModes K))
    (GR : FnOk P w K mg base (L2.CX P w) 6 fR fdR psS (spReq K C CS CP CM)) (b4 : Binds K fdR psS [])
    (hr : Room 13 (callerA.deeper (envOfC "law" (defScope sLaw) s.heap.objs.size f (.ref c))))
    (dT : PSs (cxOf CX0 P w K mg base NL "law" (defScope sLaw) f (.ref c) callerA [] s H0 Eb).nox (bTurn.drop 5) tT)
    (zT : ∀ (D : Ends) (H1 : Hp) (a m l : Addr) (n : Nat) (pS : Addr) (xs : List V) (ys : List (Str × Int)) (pP : Addr) (ps : List V) (ds : List PyData) (pW : Addr) (zs : List Str) (pE : Addr) (es : List V) (fs : List PyData) (pF : Addr) (us : List Str) (x dx y dy : Addr) (vM vN : V) (v2 v10 v11 v12 v13 : Option V),
      LRs K H1 m l n C pS xs ys pP ps ds pW zs pE es fs pF us x dx y dy vM vN → n < 400000 → Tabs (tabsK Pk Pl) H1 →
      (∀ (v10 v11 v13 : Option V) (l' : Addr) (H2 : Hp), Mch H2 m l' (n + 10) → Tabs (tabsK Pk Pl) H2 → D.nx [some (.ref a), some (.ref m), v2, some (.ref pS), some (.ref pP), some (.ref pW), some (.ref pE), some (.ref pF), some (.ref x), some (.ref y), v10, v11, v12, v13] H2) →
      tT D [some (.ref a), some (.ref m), v2, some (.ref pS), some (.ref pP), some (.ref pW), some (.ref pE), some (.ref pF), some (.ref x), some (.ref y), v10, v11, v12, v13] H1) :
    ∃ t, PSs (cxOf CX0 P w K mg base NL "law" (defScope sLaw) f (.ref c) callerA [] s H0 Eb).nox bTurn t ∧ ∀ (D : Ends) (H1 : Hp) (a m l : Addr) (n : Nat) (v2 v3 v4 v5 v6 v7 v8 v9 v10 v11 v12 v13 : Option V),
      Mch H1 m l n → n < 200000 → Tabs (tabsK Pk Pl) H1 →
      (∀ (v3 v4 v5 v6 v7 v8 v9 v10 v11 v12 v13 : Option V) (l' : Addr) (H2 : Hp), Mch H2 m l' (n + 500) → Tabs (tabsK Pk Pl) H2 → D.nx [some (.ref a), some (.ref m), v2, v3, v4, v5, v6, v7, v8, v9, v10, v11, v12, v13] H2) →
      t D [some (.ref a), some (.ref m), v2, v3, v4, v5, v6, v7, v8, v9, v10, v11, v12, v13] H1 := by
  have GN : FnOk P w K mg base CX0 1 fN fdN ["m", "many"] spNext := ok_next FN T0
  have hr1 : Room 1 (callerA.deeper (envOfC "law" (defScope sLaw) s.heap.objs.size f (.ref c))) := hr.mono (by decide)
  have hr2 : Room 2 (callerA.deeper (envOfC "law" (defScope sLaw) s.heap.objs.size f (.ref c))) := hr.mono (by decide)
  have hr3 : Room 3 (callerA.deeper (envOfC "law" (defScope sLaw) s.heap.objs.size f (.ref c))) := hr.mono (by decide)
  have hr7 : Room 7 (callerA.deeper (envOfC "law" (defScope sLaw) s.heap.objs.size f (.ref c))) := hr.mono (by decide)
  refine ⟨_, pss_cons (ps_set (i := 3) scL.nd rfl (by first | exact Or.inl rfl | exact Or.inr rfl) (pe_call GS hr3 (by rfl) gSe FS.kp bS .nil pass0 (pa_cons (pv 1) pa_nil)))
    (pss_cons (ps_par (i := 4) (j := 5) (by rfl) scL.nd rfl rfl (by decide) rfl rfl (pa_cons (pe_call GPc hr3 (by rfl) gPc FPc.kp bPc .nil pass0 (pa_cons (pv 1) (pa_cons (pv 3) (pa_cons pe_int pa_nil)))) (pa_cons (pe_call GMd hr2 (by rfl) gMd FMd.kp bMd .nil pass0 (pa_cons (pv 1) (pa_cons (pv 3) pa_nil))) pa_nil)) (by rfl))
    (pss_cons (ps_set (i := 6) scL.nd rfl (by first | exact Or.inl rfl | exact Or.inr rfl) (pe_ix (show IxR _ (rIxL K) from ix_list) (pe_lst (pa_cons (pv 4) (pa_cons (pe_call GPc hr3 (by rfl) gPc FPc.kp bPc .nil pass0 (pa_cons (pv 1) (pa_cons (pv 3) (pa_cons pe_int pa_nil)))) pa_nil))) (pe_call GN hr1 (by rfl) hnext FN.kp bN .nil pass0 (pa_cons (pv 1) (pa_cons pe_int pa_nil))) (fun _ _ => rfl)))
    (pss_cons (ps_set (i := 7) scL.nd rfl (by first | exact Or.inl rfl | exact Or.inr rfl) (pe_ix (show IxR _ (rIxL K) from ix_list) (pe_lst (pa_cons (pv 5) (pa_cons (pe_call GMd hr2 (by rfl) gMd FMd.kp bMd .nil pass0 (pa_cons (pv 1) (pa_cons (pv 3) pa_nil))) pa_nil))) (pe_call GN hr1 (by rfl) hnext FN.kp bN .nil pass0 (pa_cons (pv 1) (pa_cons pe_int pa_nil))) (fun _ _ => rfl)))
    (pss_cons (ps_asg (pe_tup (pa_cons (pe_make (E := fun _ _ _ => False) MkC GR hr7 (by rfl) G.req b4 .nil (passes_call noTk fun _ _ _ _ h => h) (pa_cons (pv 3) (pa_cons (pv 4) (pa_cons (pv 5) pa_nil))))
          (pa_cons (pe_make (E := fun _ _ _ => False) MkC GR hr7 (by rfl) G.req b4 .nil (passes_call noTk fun _ _ _ _ h => h) (pa_cons (pv 3) (pa_cons (pv 6) (pa_cons (pv 7) pa_nil)))) pa_nil)))
        (pg_tup rfl (pgs_cons (pg_name (i := 8) scL.nd rfl (by first | exact Or.inl rfl | exact Or.inr rfl)) (pgs_cons (pg_name (i := 9) scL.nd rfl (by first | exact Or.inl rfl | exact Or.inr rfl)) pgs_nil)))) dT)))), ?_⟩
  intro D H1 a m l n v2 v3 v4 v5 v6 v7 v8 v9 v10 v11 v12 v13 M hn tb nx
  refine ⟨_, rfl, m, l, n, rfl, M, by omega, fun pS as ys l1 H2 gp pr so M1 f1 => ?_⟩
  have la := pr.length
  have l3 := so.len3
  have t2 := Tabs.fr M f1 tb
  refine ⟨_, rfl, _, rfl, m, l1, pS, n + 12, as, ys, 10, rfl, M1, by omega, gp, pr, so.okP, so.len1, so.len3, by decide, by decide, fun pP ps ds l2 H3 gP dP gdP lP1 lP2 plP M2 f2 => ?_⟩
  have k2 := M1.step f2
  have t3 := Tabs.fr M1 f2 t2
  have gp3 := k2.atK gp
  have pr3 := pr.keptK k2
  have P3 : PcAt K H3 m l2 ys pP ps ds := ⟨gP.at6, dP, gdP, lP1, lP2, plP⟩
  clear gP dP gdP lP1 lP2 plP
  refine ⟨_, rfl, _, rfl, m, l2, pS, n + 12 + 220, as, rfl, M2, by omega, gp3, by omega, fun pW zs l4 H4 gW lz hz M3 f3 => ⟨_, _, rfl, ?_⟩⟩
  have k3 := M2.step f3
  have t4 := Tabs.fr M2 f3 t3
  have gp4 := k3.atK gp3
  have pr4 := pr3.keptK k3
  have P4 := P3.step k3
  have W4 : MdAt H4 as.length pW zs := ⟨.inl gW, lz, hz⟩
  clear gW lz hz
  -- more
  refine ⟨_, rfl, _, rfl, _, rfl, m, l4, pS, n + 12 + 220 + 3, as, ys, 4, rfl, M3, by omega, gp4, pr4, so.okP, so.len1, so.len3, by decide, by decide, fun pO os es l5 H5 gO dO gdO lO1 lO2 plO M4 f4 => ⟨(by show 2 ≤ sizeLine; decide), fun F hF => ?_⟩⟩
  have k4 := M3.step f4
  have t5 := Tabs.fr M3 f4 t4
  have O5 : PcAt K H5 m l5 ys pO os es := ⟨gO.at6, dO, gdO, lO1, lO2, plO⟩
  clear gO dO gdO lO1 lO2 plO
  have s5 : Same H5 (upd H5 F (.lst [.ref pP, .ref pO])) := Same.upd hF
  have gF : (upd H5 F (.lst [.ref pP, .ref pO])) F = some (.lst [.ref pP, .ref pO]) := upd_same
  have nF := M4.ne hF
  generalize upd H5 F (.lst [.ref pP, .ref pO]) = H6 at s5 gF ⊢
  have M5 := M4.same s5
  have gp6 := s5 _ _ (k4.atK gp4)
  have pr6 : Prs H6 as ys := Prs.same (fun b o _ e => s5 b o e) (pr4.keptK k4)
  have P6 := (P4.step k4).same s5
  have O6 := O5.same s5
  have W6 := (W4.step k4).same s5
  have t6 := Tabs.same t5 s5
  refine ⟨_, rfl, m, l5, n + 12 + 220 + 3 + 220, 2, rfl, M5, by omega, by decide, by decide, fun r l7 H7 r0 r2 M7 f7 => ?_⟩
  have k7 := M5.step f7
  have t7 := Tabs.fr M5 f7 t6
  have gp7 := k7.atK gp6
  have pr7 := pr6.keptK k7
  have P7 := P6.step k7
  have O7 := O6.step k7
  have W7 := W6.step k7
  have key : ∃ pE xs' fs, atI ([.ref pP, .ref pO] : List V) r = some (.ref pE) ∧ PcAt K H7 m l7 ys pE xs' fs := by
    obtain ⟨j, rfl⟩ : ∃ j : Nat, r = (j : Int) := ⟨r.toNat, by omega⟩
    have hj : j < 2 := by omega
    match j, hj with
    | 0, _ => exact ⟨pP, _, _, rfl, P7⟩
    | 1, _ => exact ⟨pO, _, _, rfl, O7⟩
  obtain ⟨pE, xs', fs, hat, E7⟩ := key
  refine ⟨F, _, r, .ref pE, rfl, rfl, SqL.of (f7.keep _ _ gF nF.1 nF.2), hat, ?_⟩
  clear O5 O6 O7
  -- far
  refine ⟨_, rfl, _, rfl, _, rfl, m, l7, pS, n + 12 + 220 + 3 + 220 + 1, as, rfl, M7, by omega, gp7, by omega, fun pV us l8 H8 gV lu hu M8 f8 => ⟨(by show 2 ≤ sizeLine; decide), fun F2 hF2 => ?_⟩⟩
  have k8 := M7.step f8
  have t8 := Tabs.fr M7 f8 t7
  have V8 : MdAt H8 as.length pV us := ⟨.inl gV, lu, hu⟩
  clear gV lu hu
  have s9 : Same H8 (upd H8 F2 (.lst [.ref pW, .ref pV])) := Same.upd hF2
  have gF2 : (upd H8 F2 (.lst [.ref pW, .ref pV])) F2 = some (.lst [.ref pW, .ref pV]) := upd_same
  have nF2 := M8.ne hF2
  generalize upd H8 F2 (.lst [.ref pW, .ref pV]) = H9 at s9 gF2 ⊢
  have M9 := M8.same s9
  have t9 := Tabs.same t8 s9
  refine ⟨_, rfl, m, l8, n + 12 + 220 + 3 + 220 + 1 + 3, 2, rfl, M9, by omega, by decide, by decide, fun r' l10 H10 r0' r2' M10 f10 => ?_⟩
  have k10 := M9.step f10
  have t10 := Tabs.fr M9 f10 t9
  have gp10 := k10.atK (s9 _ _ (k8.atK gp7))
  have pr10 : Prs H10 as ys := Prs.keptK k10 (Prs.same (fun b o _ e => s9 b o e) (pr7.keptK k8))
  have P10 := ((P7.step k8).same s9).step k10
  have E10 := ((E7.step k8).same s9).step k10
  have W10 := ((W7.step k8).same s9).step k10
  have V10 := (V8.same s9).step k10
  have key2 : ∃ pF us', atI ([.ref pW, .ref pV] : List V) r' = some (.ref pF) ∧ MdAt H10 as.length pF us' := by
    obtain ⟨j, rfl⟩ : ∃ j : Nat, r' = (j : Int) := ⟨r'.toNat, by omega⟩
    have hj : j < 2 := by omega
    match j, hj with
    | 0, _ => exact ⟨pW, _, rfl, W10⟩
    | 1, _ => exact ⟨pV, _, rfl, V10⟩
  obtain ⟨pF, us', hat2, F10⟩ := key2
  refine ⟨F2, _, r', .ref pF, rfl, rfl, SqL.of (f10.keep _ _ gF2 nF2.1 nF2.2), hat2, ?_⟩
  -- the two requests
  have hS6 : Dq K H10 m l10 (.ref pS) (.tuple (prD ys)) := .tup (.inl (.inl gp10)) pr10.dq
  have gS9 : Gd (10 ^ 31) 100000 2 (.tuple (prD ys)) := (spots_goodK so).mono (Nat.le_refl _) (by decide) (Nat.le_refl _)
  have lzW := W10.len
  have luF := F10.len
  refine ⟨_, rfl, _, rfl, _, rfl, fun x dx hx0 hdx0 ne0 => ?_⟩
  refine req_okQ (b1 := 2) (B1 := 10 ^ 31) (b2 := 3) (B2 := big) so hS6 gS9 (.tup P10.at_.seqT P10.dq) (P10.gd.mono (Nat.le_refl _) (by decide) (Nat.le_refl _)) (.tup W10.at_.seqT (strs_dq zs)) (places_no so.nodup P10.l1 P10.l16 P10.pl) (modes_no (by omega) W10.mem) hx0 hdx0 ne0 fun vM H11 s11 gx hM => ⟨rfl, ?_⟩
  have hS7 := Dq.same s11 _ _ hS6
  have E11 := E10.same s11
  have F11 := F10.same s11
  refine ⟨_, rfl, _, rfl, _, rfl, fun y dy hy0 hdy0 ney0 => ?_⟩
  refine req_okQ (b1 := 2) (B1 := 10 ^ 31) (b2 := 3) (B2 := big) so hS7 gS9 (.tup E11.at_.seqT E11.dq) (E11.gd.mono (Nat.le_refl _) (by decide) (Nat.le_refl _)) (.tup F11.at_.seqT (strs_dq us')) (places_no so.nodup E11.l1 E11.l16 E11.pl) (modes_no (by omega) F11.mem) hy0 hdy0 ney0 fun vN H12 s12 gy hN => ⟨rfl, ?_⟩
  refine ⟨(by show 2 ≤ sizeLine; decide), fun pT hpT => ⟨pT, _, rfl, .inl (.inl upd_same), rfl, _, _, rfl, _, _, rfl, rfl, ?_⟩⟩
  have s13 : Same H12 (upd H12 pT (.tup [.ref x, .ref y])) := Same.upd hpT
  have s23 := s12.trans s13
  have s03 := s11.trans s23
  generalize upd H12 pT (.tup [.ref x, .ref y]) = H13 at s13 s23 s03 ⊢
  have P13 := P10.same s03
  have E13 := E10.same s03
  have W13 := W10.same s03
  have F13 := F10.same s03
  have T13 : LRs K H13 m l10 (n + 12 + 220 + 3 + 220 + 1 + 3 + 1) C pS (as.map V.ref) ys pP ps ds pW zs pE xs' fs pF us' x dx y dy vM vN :=
    ⟨M10.same s03, so, TupAt.same s03 (.inl gp10), DqAll.same s03 _ _ pr10.dq, P13.at_, P13.dq, P13.pl, P13.l1, P13.l16, W13.at_, by omega, W13.mem, E13.at_, E13.dq, E13.pl, E13.l1, E13.l16, F13.at_, by omega, F13.mem, s23 _ _ gx, Dq.same s23 _ _ hM, s13 _ _ gy, Dq.same s13 _ _ hN⟩
  exact zT D H13 a m l10 _ pS _ ys pP ps ds pW zs pE xs' fs pF us' x dx y dy vM vN v2 v10 v11 v12 v13 T13 (by omega) (Tabs.same t10 s03) fun v10 v11 v13 l' H14 M14 t14 => nx _ _ _ _ _ _ _ v10 v11 v12 v13 l' H14 (M14.mono (by omega)) t14
end
end Ms
namespace Ms
open PySem PySem.Spec PyProof.Rows L2 LamX StX
/-! ### law k06: the whole def -/
abbrev psS7 : List Str := ["self", "settings", "places", "modes"]
abbrev sIniI : Stmt := inClass (top 6) 0
abbrev oT6 : List Value := [.type "LookupError", .type "Exception", .type "BaseException", .type "object"]
theorem scXi : FnScope ["self", "name"] ["self", "name"] (defScope sIniI) := ⟨rfl, rfl, rfl, by decide +kernel, rfl, by decide +kernel, by decide +kernel⟩
theorem so_a : SetOk [(("a" : Str), (1 : Int))] := ⟨by decide, by decide, (fun q hq => by rw [List.mem_singleton.mp hq]; exact nmA), (fun q hq => by rw [List.mem_singleton.mp hq]; decide), by decide, by decide⟩
theorem so_b : SetOk [(("b" : Str), (1 : Int))] := ⟨by decide, by decide, (fun q hq => by rw [List.mem_singleton.mp hq]; exact nmB), (fun q hq => by rw [List.mem_singleton.mp hq]; decide), by decide, by decide⟩
theorem words1 : modesV 1 (wordsD 1 .none) = none := modes_no (zs := ["live"]) rfl (fun z hz => by rw [List.mem_singleton.mp hz]; decide)
theorem plc_noDi : noDi plcD = true := rfl
section
variable {P : Program} {w : World} {K : PySem.W.Frag} {mg : Str → Option Value} {base : Heap} {C CS CP CM fE fL fR f c : Addr} {fdE fdR : FuncData} {dn : Value} {s : Shared} {H0 : Hp} {Eb : XK}
/-- two requests of other settings are not the same -/
theorem law_bare (O : OwnC K C fE fL) (GEq : FnOk P w K mg base CX0 1 fE fdE ["self", "other"] (spREq K C)) (bEq : Binds K fdE ["self", "other"] []) (gR : mg "Request" = some (.ref C))
    (MkC : Mk K C fR) (GR : FnOk P w K mg base (L2.CX P w) 6 fR fdR psS (spReq K C CS CP CM)) (b3 : Binds K fdR psS [dn]) (vd : Vals [V.non] [dn])
    (hr : Room 13 (callerA.deeper (envOfC "law" (defScope sLaw) s.heap.objs.size f (.ref c)))) :
    ∃ t, PSs (cxOf CX0 P w K mg base NL "law" (defScope sLaw) f (.ref c) callerA [] s H0 Eb).nox ((defBody sLaw).drop 2) t ∧ ∀ (D : Ends) (H1 : Hp) (m l : Addr) (n : Nat) (v0 v1 v2 v3 v4 v5 v6 v7 v8 v9 v10 v11 v12 v13 : Option V),
      Mch H1 m l n → (∀ H2, D.rt (.bl true) H2) → t D [v0, v1, v2, v3, v4, v5, v6, v7, v8, v9, v10, v11, v12, v13] H1 := by
  have hr2 : Room 2 (callerA.deeper (envOfC "law" (defScope sLaw) s.heap.objs.size f (.ref c))) := hr.mono (by decide)
  have hr7 : Room 7 (callerA.deeper (envOfC "law" (defScope sLaw) s.heap.objs.size f (.ref c))) := hr.mono (by decide)
  refine ⟨_, pss_cons (ps_set (i := 12) scL.nd rfl (by first | exact Or.inl rfl | exact Or.inr rfl) (pe_tup (pa_cons (pe_tup (pa_cons pe_str pa_nil)) pa_nil)))
    (pss_one (ps_ret (pe_cmpR (show OpR _ (compareOp .NotEq) (rOwnK K C (spREq K C) true (fun _ _ _ => False)) from by exact op_neOwn O GEq hr2 bEq pass0)
      (pe_make (E := fun _ _ _ => False) MkC GR hr7 (by rfl) gR b3 vd (passes_call noTk fun _ _ _ _ h => h) (pa_cons (pe_tup (pa_cons (pe_tup (pa_cons pe_str (pa_cons pe_int pa_nil))) pa_nil)) (pa_cons (pv 12) pa_nil)))
      (pe_make (E := fun _ _ _ => False) MkC GR hr7 (by rfl) gR b3 vd (passes_call noTk fun _ _ _ _ h => h) (pa_cons (pe_tup (pa_cons (pe_tup (pa_cons pe_str (pa_cons pe_int pa_nil))) pa_nil)) (pa_cons (pv 12) pa_nil))) (by rfl)))), ?_⟩
  intro D H1 m l n v0 v1 v2 v3 v4 v5 v6 v7 v8 v9 v10 v11 v12 v13 M q
  refine ⟨(by show 1 ≤ sizeLine; decide), fun p1 hp1 => ?_⟩
  have s1 : Same H1 (upd H1 p1 (.tup [.str "end"])) := Same.upd hp1
  have q1 : (upd H1 p1 (.tup [.str "end"])) p1 = some (.tup [.str "end"]) := upd_same
  generalize upd H1 p1 (.tup [.str "end"]) = G1 at s1 q1 ⊢
  refine ⟨(by show 1 ≤ sizeLine; decide), fun pB hpB => ?_⟩
  have s2 : Same G1 (upd G1 pB (.tup [.ref p1])) := Same.upd hpB
  have q2 : (upd G1 pB (.tup [.ref p1])) pB = some (.tup [.ref p1]) := upd_same
  generalize upd G1 pB (.tup [.ref p1]) = G2 at s2 q2 ⊢
  have dB : Dq K G2 m l (.ref pB) plcD := .tup (.inl (.inl q2)) (.cons (.tup (.inl (.inl (s2 _ _ q1))) (.cons (.str _) .nil)) .nil)
  -- the first one
  refine ⟨(by show 2 ≤ sizeLine; decide), fun p3 hp3 => ?_⟩
  have s3 : Same G2 (upd G2 p3 (.tup [.str "a", .int 1])) := Same.upd hp3
  have q3 : (upd G2 p3 (.tup [.str "a", .int 1])) p3 = some (.tup [.str "a", .int 1]) := upd_same
  generalize upd G2 p3 (.tup [.str "a", .int 1]) = G3 at s3 q3 ⊢
  refine ⟨(by show 1 ≤ sizeLine; decide), fun p4 hp4 => ?_⟩
  have s4 : Same G3 (upd G3 p4 (.tup [.ref p3])) := Same.upd hp4
  have q4 : (upd G3 p4 (.tup [.ref p3])) p4 = some (.tup [.ref p3]) := upd_same
  generalize upd G3 p4 (.tup [.ref p3]) = G4 at s4 q4 ⊢
  have dA4 : Dq K G4 m l (.ref p4) (.tuple (prD [(("a" : Str), (1 : Int))])) := .tup (.inl (.inl q4)) (.cons (.tup (.inl (.inl (s4 _ _ q3))) (.cons (.str _) (.cons (.int _) .nil))) .nil)
  have dB4 := Dq.same (s3.trans s4) _ _ dB
  have ga : Gd (10 ^ 31) 100000 2 (.tuple (prD [(("a" : Str), (1 : Int))])) := (spots_goodK so_a).mono (Nat.le_refl _) (by decide) (Nat.le_refl _)
  have gb : Gd (10 ^ 31) 100000 2 (.tuple (prD [(("b" : Str), (1 : Int))])) := (spots_goodK so_b).mono (Nat.le_refl _) (by decide) (Nat.le_refl _)
  refine ⟨_, rfl, fun x dx hx0 hdx0 ne0 => ?_⟩
  refine req_okQ (b1 := 2) (B1 := 10 ^ 31) (b2 := 3) (B2 := big) so_a dA4 ga dB4 plc_good .non (plc_no so_a) words1 hx0 hdx0 ne0 fun vM G5 s5 gx hM => ⟨rfl, ?_⟩
  -- the other one
  refine ⟨(by show 2 ≤ sizeLine; decide), fun p6 hp6 => ?_⟩
  have s6 : Same G5 (upd G5 p6 (.tup [.str "b", .int 1])) := Same.upd hp6
  have q6 : (upd G5 p6 (.tup [.str "b", .int 1])) p6 = some (.tup [.str "b", .int 1]) := upd_same
  generalize upd G5 p6 (.tup [.str "b", .int 1]) = G6 at s6 q6 ⊢
  refine ⟨(by show 1 ≤ sizeLine; decide), fun p7 hp7 => ?_⟩
  have s7 : Same G6 (upd G6 p7 (.tup [.ref p6])) := Same.upd hp7
  have q7 : (upd G6 p7 (.tup [.ref p6])) p7 = some (.tup [.ref p6]) := upd_same
  generalize upd G6 p7 (.tup [.ref p6]) = G7 at s7 q7 ⊢
  have s57 := s6.trans s7
  have dC7 : Dq K G7 m l (.ref p7) (.tuple (prD [(("b" : Str), (1 : Int))])) := .tup (.inl (.inl q7)) (.cons (.tup (.inl (.inl (s7 _ _ q6))) (.cons (.str _) (.cons (.int _) .nil))) .nil)
  have dB7 := Dq.same (s5.trans s57) _ _ dB4
  have dA7 := Dq.same (s5.trans s57) _ _ dA4
  refine ⟨_, rfl, fun y dy hy0 hdy0 ney0 => ?_⟩
  refine req_okQ (b1 := 2) (B1 := 10 ^ 31) (b2 := 3) (B2 := big) so_b dC7 gb dB7 plc_good .non (plc_no so_b) words1 hy0 hdy0 ney0 fun vN G8 s8 gy hN => ⟨rfl, ?_⟩
  have gx8 := s8 _ _ (s57 _ _ gx)
  have gw : Gd big 60 1 (.tuple (([("live" : Str)]).map PyData.str)) := words_goodK (zs := ["live"]) (by decide) (fun z hz => by rw [List.mem_singleton.mp hz]; decide)
  have pa : Pl K G8 m l (.ref p4) (.tuple (prD [(("a" : Str), (1 : Int))])) := ⟨Dq.same s8 _ _ dA7, prs_noDiK _, shaped_of ga (prs_noDiK _) (by decide)⟩
  have pb : Pl K G8 m l (.ref p7) (.tuple (prD [(("b" : Str), (1 : Int))])) := ⟨Dq.same s8 _ _ dC7, prs_noDiK _, shaped_of gb (prs_noDiK _) (by decide)⟩
  have pc : Pl K G8 m l (.ref pB) plcD := ⟨Dq.same s8 _ _ dB7, rfl, shaped_of plc_good rfl (by decide)⟩
  have pd : Pl K G8 m l vM (.tuple (([("live" : Str)]).map PyData.str)) := ⟨Dq.same s8 _ _ (Dq.same s57 _ _ hM), strs_noDiK _, shaped_of gw (strs_noDiK _) (by decide)⟩
  have pe : Pl K G8 m l vN (.tuple (([("live" : Str)]).map PyData.str)) := ⟨hN, strs_noDiK _, shaped_of gw (strs_noDiK _) (by decide)⟩
  refine ⟨x, dx, _, rfl, gx8, .inl ⟨y, dy, _, rfl, gy⟩, x, dx, _, _, _, _, rfl, gx8, .inr ⟨y, dy, m, l, _, _, _, _, _, _, _, _, _, rfl, gy, pa, pc, pd, pb, pc, pe, _, rfl, ?_⟩⟩
  rw [show PyData.eqv (.tuple (prD [(("a" : Str), (1 : Int))])) (.tuple (prD [(("b" : Str), (1 : Int))])) = false by decide +kernel, Bool.false_and]
  exact q _
end
end Ms
namespace Ms
open PySem PySem.Spec PyProof.Rows L2 LamX StX
/-! ### law k06: the whole def, put together -/
theorem forall_mem2 {α : Type} {p : α → Prop} {x y : α} (hx : p x) (hy : p y) : ∀ z ∈ [x, y], p z := fun z hz => by
  rcases List.mem_cons.mp hz with rfl | hz
  · exact hx
  · rw [List.mem_singleton.mp hz]; exact hy
section
variable {P : Program} {w : World} {K : PySem.W.Frag} {mg : Str → Option Value} {fN fM fBg fSe fPc fMd fKR fTo C CS CP CM CI fR fKp fWm fE fL f c ck Pk Pl pI pN pS pA pG fNu fAs fPl fMo fNP fNM fNd aE aM fES fEP fEM fEI : Addr}
theorem ok_law {fd fdBg fdN fdM fdS fdPc fdMd fdKR fdTo fdI fdPn fdPs fdNd fdPa fdPg fdNu fdAs fdPl fdMo fdNP fdNM fdR fdKp fdWm fdE fdL fdES fdEP fdEM fdEI : FuncData} {q1 q2 q3 q4 qual qw qe ql : Str} {dn : Value}
    (T0 : TxtS mg fN fM) (hmin : mg "min" = none) (hrep : mg "repr" = none) (hisi : mg "isinstance" = none) (TR : TxtR mg pI pN pS pA pG fNu fAs fPl fMo fNP fNM fNd aE aM) (W : WrT K aE aM) (G : G6 mg fTo C CM CI) (X6 : C6 K C CM CI fKp) (IC : C8.InsC K C) (NK : NotKit K C) (O : OwnC K C fE fL) (nP : Pk ≠ Pl)
    (gBg : mg "_law_begun" = some (.ref fBg)) (gSe : mg "_law_settings" = some (.ref fSe)) (gPc : mg "_law_places" = some (.ref fPc)) (gMd : mg "_law_modes" = some (.ref fMd)) (gKR : mg "_law_kept_right" = some (.ref fKR)) (gS : mg "BadSettings" = some (.ref CS)) (gP : mg "BadPlaces" = some (.ref CP))
    (MkC : Mk K C fR) (mtW : Meth K C "with_modes" fWm) (TS : ErrC K CS fES) (TP : ErrC K CP fEP) (TM : ErrC K CM fEM)
    (TX : XC K CI fEI "name" "LookupError.__new__" oT6) (exI : PySem.W.subIn K (.ref CI) (.type "BaseException") = some true) (tyI : PySem.W.typeIn K (.ref CI) = some (.type "type"))
    (F : Fun K "law" "law" sLaw f fd) (hc : fd.code = .ref c) (bL : ∀ (s : Shared) (u : Value), BindsTo s fd ⟨[u], []⟩ [("script", u)])
    (FKR : Fun K "_law_kept_right" "_law_kept_right" sKept fKR fdKR) (hcK : fdKR.code = .ref ck) (bKR : Binds K fdKR ["m"] [])
    (FBg : Fun K "_law_begun" "_law_begun" sBegun fBg fdBg) (bBg : Binds K fdBg ["script"] []) (FN : Fun K "_law_next" "_law_next" sNext fN fdN) (bN : Binds K fdN ["m", "many"] []) (FM : Fun K "_law_names" "_law_names" sNames fM fdM) (bM : Binds K fdM ["m", "many"] [])
    (FS : Fun K "_law_settings" "_law_settings" sSettings fSe fdS) (bS : Binds K fdS ["m"] []) (FPc : Fun K "_law_places" "_law_places" sPlaces fPc fdPc) (bPc : Binds K fdPc ["m", "spots", "most"] []) (FMd : Fun K "_law_modes" "_law_modes" sModes fMd fdMd) (bMd : Binds K fdMd ["m", "spots"] [])
    (FTo : Fun K "_law_told" "_law_told" sTold fTo fdTo) (bTo : Binds K fdTo ["call"] [])
    (FR : FunD K "__init__" qual (defArgs sReqIni) (defBody sReqIni) (defScope sReqIni) [.non] [] fR fdR) (b3 : Binds K fdR psS7 [dn]) (vd : Vals [V.non] [dn]) (b4 : Binds K fdR psS7 [])
    (FKp : Fun K "keeping" "Request.keeping" sReqKeep fKp fdKp) (FWm : Fun K "with_modes" qw sReqWith fWm fdWm) (bWm : Binds K fdWm ["self", "modes"] []) (FEq : Fun K "__eq__" qe sReqEq fE fdE) (bEq : Binds K fdE ["self", "other"] []) (FLn : Fun K "__len__" ql sReqLen fL fdL) (bLn : Binds K fdL ["self"] [])
    (FES : Fun K "__init__" q1 sIni fES fdES) (bES : Binds K fdES ["self", "place"] []) (FEP : Fun K "__init__" q2 sIniP fEP fdEP) (bEP : Binds K fdEP ["self", "place"] []) (FEM : Fun K "__init__" q3 sIniM fEM fdEM) (bEM : Binds K fdEM ["self", "place"] [])
    (FEI : Fun K "__init__" q4 sIniI fEI fdEI) (bdI : ∀ (s : Shared) (v u : Value), BindsTo s fdEI ⟨[v, u], []⟩ [("self", v), ("name", u)])
    (FI : Fun K "is_int" "is_int" sPInt pI fdI) (bI : Binds K fdI ["thing"] []) (FPn : Fun K "is_name" "is_name" sPName pN fdPn) (bPn : Binds K fdPn ["thing"] []) (FPs : Fun K "is_setting" "is_setting" sPSet pS fdPs) (bPs : Binds K fdPs ["thing"] [])
    (FPa : Fun K "names_of" "names_of" sPNames pA fdPa) (bPa : Binds K fdPa ["settings"] []) (FPg : Fun K "grid_of" "grid_of" sPGrid pG fdPg) (bPg : Binds K fdPg ["settings"] []) (FNd : Fun K "need_settings" "need_settings" sNeed fNd fdNd) (bNd : Binds K fdNd ["thing"] [])
    (FNu : Fun K "is_number" "is_number" sPNum fNu fdNu) (bNu : Binds K fdNu ["many", "thing"] []) (FAs : Fun K "is_ask" "is_ask" sPAsk fAs fdAs) (bAs : Binds K fdAs ["settings", "many", "setting", "nexts"] [])
    (FPl : Fun K "is_place" "is_place" sPPlace fPl fdPl) (bPl : Binds K fdPl ["settings", "many", "thing"] []) (FMo : Fun K "is_mode" "is_mode" sPMode fMo fdMo) (bMo : Binds K fdMo ["thing"] [])
    (FNP : Fun K "need_places" "need_places" sNPlaces fNP fdNP) (bNP : Binds K fdNP ["settings", "places"] []) (FNM : Fun K "need_modes" "need_modes" sNModes fNM fdNM) (bNM : Binds K fdNM ["settings", "modes"] []) : LawRunTs P w K mg f [(ck, Pk), (c, Pl)] := by
  intro base H s a ns kin glob TBl hT hS hlen st0
  have TBk : TabB base mg ck Pk := TBl (ck, Pk) (List.mem_cons_self ..)
  have TBc : TabB base mg c Pl := TBl (c, Pl) (List.mem_cons_of_mem _ (List.mem_singleton.mpr rfl))
  have GBg : FnOk P w K mg base CX0 1 fBg fdBg ["script"] (spBegun K) := ok_begun FBg T0.toTxt
  have GS : FnOk P w K mg base CX0 3 fSe fdS ["m"] spSettingsV := ok_settingsV FS T0 FN bN FM bM
  have GPc : FnOk P w K mg base CX0 3 fPc fdPc ["m", "spots", "most"] (spPlacesV K) := ok_placesV FPc ⟨T0, hmin⟩ FN bN FM bM
  have GMd : FnOk P w K mg base CX0 2 fMd fdMd ["m", "spots"] (spModes K) := ok_modes FMd T0 FN bN
  have GEM : FnOk P w K mg base CX0 1 fEM fdEM ["self", "place"] (spIni CM) := ok_iniM FEM TM
  have GX : FnOk P w K mg base CX0 1 fEI fdEI ["self", "name"] (spInit CI "name") := ok_xinit FEI PySem.F.store_LookupError TX scXi rfl rfl rfl (by decide) (by decide)
  have GR : FnOk P w K mg base (L2.CX P w) 6 fR fdR ["self", "settings", "places", "modes"] (spReq K C CS CP CM) := ok_reqini FR TR W X6.RC gS TS gP TP G.bm TM FES bES FEP bEP FEM bEM FI bI FPn bPn FPs bPs FPa bPa FPg bPg FNd bNd FNu bNu FAs bAs FPl bPl FMo bMo FNP bNP FNM bNM
  have GNM : FnOk P w K mg base (L2.CX P w) 3 fNM fdNM ["settings", "modes"] (spNMo K CM) := ok_nmodes FNM TR W G.bm TM FMo bMo FEM bEM
  have GWm : FnOk P w K mg base (L2.CX P w) 8 fWm fdWm ["self", "modes"] (spWith K C CM) := ok_with FWm X6.RC MkC G.req TR.gNM GR b4 GNM FNM.kp bNM
  have WW : GW P w K mg base C CM fWm fdWm := ⟨GWm, mtW, bWm⟩
  have GEq : FnOk P w K mg base CX0 1 fE fdE ["self", "other"] (spREq K C) := ok_req_eq FEq hisi G.req X6.RC IC NK
  have GLn : FnOk P w K mg base CX0 1 fL fdL ["self"] (spRLen K C) := ok_req_len FLn T0.len X6.RC
  have KP : Kps P w K mg base C CM CI fKp :=
    ⟨ok_keep FKp TR W X6.RC MkC T0.zip G.req GR b4 FPa bPa FMo bMo G.bm TM GEM bEM G.mi PySem.F.excBase_LookupError TX exI tyI GX bdI (by decide) (by decide) (fun _ _ _ _ _ _ _ ws hl => match ws, hl with | [_], _ => rfl),
     ok_keep FKp TR W X6.RC MkC T0.zip G.req GR b4 FPa bPa FMo bMo G.bm TM GEM bEM G.mi PySem.F.excBase_LookupError TX exI tyI GX bdI (by decide) (by decide) (fun _ _ _ _ _ _ _ ws hl => match ws, hl with | [_, _], _ => rfl),
     ok_keep FKp TR W X6.RC MkC T0.zip G.req GR b4 FPa bPa FMo bMo G.bm TM GEM bEM G.mi PySem.F.excBase_LookupError TX exI tyI GX bdI (by decide) (by decide) (fun _ _ _ _ _ _ _ ws hl => match ws, hl with | [], _ => rfl),
     ok_keep FKp TR W X6.RC MkC T0.zip G.req GR b4 FPa bPa FMo bMo G.bm TM GEM bEM G.mi PySem.F.excBase_LookupError TX exI tyI GX bdI (by decide) (by decide) (fun _ _ _ _ _ _ _ ws hl => match ws, hl with | [_, _], _ => rfl)⟩
  have GKR : FnOk P w K mg base CX0 12 fKR fdKR ["m"] (spKR Pk Pl) := ok_kept FKR hcK G X6 KP T0.toTxt T0.next T0.tuple T0.zip FN bN MkC GR b4 FTo bTo TBk nP
  refine run_code (k := 13) (N := NL) (ps := ["script"]) (us := [.ref a]) (vs := [.ref a]) F scL rfl ⟨rfl, by decide, by decide⟩ st0 (bL s _) (.cons rfl .nil) rfl fun cdv ec hr => ?_
  have ecv : cdv = .ref c := ec.symm.trans hc
  subst ecv
  obtain ⟨t1, d1, z1⟩ := law_end (P := P) (w := w) (K := K) (mg := mg) (base := base) (C := C) (Pk := Pk) (Pl := Pl) (f := f) (c := c) (s := s) (H0 := H) (Eb := fun _ _ _ => False) X6.RC hr
  obtain ⟨t2, d2, z2⟩ := law_so (H0 := H) (Pk := Pk) G X6 WW FTo bTo TBc nP hr d1 z1
  obtain ⟨t3, d3, z3⟩ := law_due (H0 := H) T0.toTxt hisi T0.tuple hr d2 z2
  obtain ⟨t4, d4, z4⟩ := law_nine (H0 := H) T0.toTxt T0.next FN bN hr d3 z3
  obtain ⟨t5, d5, z5⟩ := law_far (H0 := H) G X6 WW FTo bTo TBc nP hr d4 z4
  obtain ⟨t6, d6, z6⟩ := law_seven (H0 := H) O GEq bEq hr d5 z5
  obtain ⟨t7, d7, z7⟩ := law_six (H0 := H) O GEq bEq gKR FKR bKR GKR hr d6 z6
  obtain ⟨t8, d8, z8⟩ := law_five (H0 := H) T0.toTxt hrep O GEq bEq GLn bLn hr d7 z7
  obtain ⟨t9, d9, z9⟩ := law_head (H0 := H) T0.toTxt T0.next FN bN G X6.RC gSe gPc gMd MkC FS bS GS FPc bPc GPc FMd bMd GMd GR b4 hr d8 z8
  obtain ⟨tb, db, zb⟩ := law_bare (H0 := H) (s := s) (f := f) (c := c) (Eb := fun _ _ _ => False) O GEq bEq G.req MkC GR b3 vd hr
  clear z1 z2 z3 z4 z5 z6 z7 z8 d1 d2 d3 d4 d5 d6 d7 d8
  have hr1 : Room 1 (callerA.deeper (envOfC "law" (defScope sLaw) s.heap.objs.size f (.ref c))) := hr.mono (by decide)
  refine ⟨_, pss_cons (ps_set (i := 1) scL.nd rfl (by first | exact Or.inl rfl | exact Or.inr rfl) (pe_call GBg hr1 (by rfl) gBg FBg.kp bBg .nil pass0 (pa_cons (pv 0) pa_nil)))
    (pss_cons (ps_for PassesOwn.never rfl (pi_range1 (by rfl) T0.range (pa_cons (pe_op op_add pe_int (pe_callB (call_min2 rfl) (by rfl) hmin (by decide +kernel) (pa_cons (pe_callB call_len_seq (by rfl) T0.len PySem.boot_len (pa_cons (pv 0) pa_nil)) (pa_cons pe_int pa_nil)))) pa_nil)) (pg_name (i := 2) scL.nd rfl (by first | exact Or.inl rfl | exact Or.inr rfl)) d9) db), ?_⟩
  refine ⟨_, rfl, a, ns, rfl, hS, hlen, fun m l H1 hm hl s1 M1 => ?_⟩
  have lenM : (ns.map V.int).length = ns.length := List.length_map ..
  refine ⟨_, rfl, a, _, rfl, .inl (s1.seq hS), _, _, rfl, _, _, rfl, rfl, _, rfl, (by rw [lenM]; split <;> omega), (by rw [lenM]; split <;> omega), ?_⟩
  generalize hj : (3 + if (8 : Int) < ((ns.map V.int).length : Nat) then (8 : Int) else ((ns.map V.int).length : Nat)) = j
  have hj16 : j ≤ 12 := by rw [← hj]; split <;> omega
  have tb1 : Tabs (tabsK Pk Pl) H1 := fun p hp => by
    rcases List.mem_cons.mp hp with rfl | hp
    · exact TabS.nil (s1 _ _ (hT (ck, Pk) (List.mem_cons_self ..)))
    · rw [List.mem_singleton.mp hp]
      exact TabS.nil (s1 _ _ (hT (c, Pl) (List.mem_cons_of_mem _ (List.mem_singleton.mpr rfl))))
  refine for_range (lo := 0) (n := j.toNat) (fun i σ H2 => ∃ (v2 v3 v4 v5 v6 v7 v8 v9 v10 v11 v12 v13 : Option V) (l n : Nat), σ = [some (.ref a), some (.ref m), v2, v3, v4, v5, v6, v7, v8, v9, v10, v11, v12, v13] ∧ Mch H2 m l n ∧ n ≤ 500 * i ∧ Tabs (tabsK Pk Pl) H2)
    ⟨_, _, _, _, _, _, _, _, _, _, _, _, l, 0, rfl, M1, Nat.le_refl _, tb1⟩ ?_ ?_
  · rintro i σ H2 hi ⟨v2, v3, v4, v5, v6, v7, v8, v9, v10, v11, v12, v13, l2, n, rfl, M2, hn, tb2⟩
    exact z9 _ H2 a m l2 n _ _ _ _ _ _ _ _ _ _ _ _ M2 (by omega) tb2 fun v3 v4 v5 v6 v7 v8 v9 v10 v11 v12 v13 l' H3 M3 t3 => ⟨_, v3, v4, v5, v6, v7, v8, v9, v10, v11, v12, v13, l', n + 500, rfl, M3, by omega, t3⟩
  · rintro σ H2 ⟨v2, v3, v4, v5, v6, v7, v8, v9, v10, v11, v12, v13, l2, n, rfl, M2, hn, tb2⟩
    exact zb _ H2 m l2 n _ _ _ _ _ _ _ _ _ _ _ _ _ _ M2 fun H3 => rfl
end
end Ms
namespace Ms
open PySem PySem.Spec PyProof.Rows L2 LamX StX
/-! ### the end: what the top has written -/
set_option maxHeartbeats 16000000 in
theorem all_mk {P : Program} {w : World} {K : PySem.W.Frag} {h : Heap} {mg : Str → Option Value} {fa CS fES CP fEP CM fEM CI fEI C fR Td aE aM fKp fWm fE fL pI pN pS pD pA pG fNu fAs fPl fMo fNP fNM fBg fN fM fSe fPc fMd fTo fKR fL9 c ck Pk Pl : Addr} (X : K.In h) (G : h.Ns mainGlobals mg) (hfa : mg "law" = some (.ref fa))
    {nmeS qeS : Str} {NeS : Addr} {bseS bmeS : List Value} {sneS : List Str} {subeS : List Value} {abeS : Bool} {coleS : Option Bool} {ddeS : Option Addr} {m0eS m1eS m2eS m3eS m5eS : Option Value}
    {odieS anieS : Option Addr} {slieS : Array (Option Value)} {ocieS kVieS dcieS pmieS cdieS ctieS : Value}
    {nmeP qeP : Str} {NeP : Addr} {bseP bmeP : List Value} {sneP : List Str} {subeP : List Value} {abeP : Bool} {coleP : Option Bool} {ddeP : Option Addr} {m0eP m1eP m2eP m3eP m5eP : Option Value}
    {odieP anieP : Option Addr} {slieP : Array (Option Value)} {ocieP kVieP dcieP pmieP cdieP ctieP : Value}
    {nmeM qeM : Str} {NeM : Addr} {bseM bmeM : List Value} {sneM : List Str} {subeM : List Value} {abeM : Bool} {coleM : Option Bool} {ddeM : Option Addr} {m0eM m1eM m2eM m3eM m5eM : Option Value}
    {odieM anieM : Option Addr} {slieM : Array (Option Value)} {ocieM kVieM dcieM pmieM cdieM ctieM : Value}
    {odieI anieI : Option Addr} {slieI : Array (Option Value)} {ocieI kVieI dcieI pmieI cdieI ctieI : Value}
    {odR anR : Option Addr} {slR : Array (Option Value)} {ocR kVR dcR pmR cdR ctR : Value} {ocT : Value} {odT : Option Addr} {nT : Nat} {slT : Array (Option Value)}
    {dE dM : Option Addr} {kE kM : Nat} {sE sM : Array (Option Value)} {tE tM1 tM2 tM3 : Tok}
    {odKp anKp : Option Addr} {slKp : Array (Option Value)} {ocKp kVKp dcKp pmKp cdKp ctKp : Value}
    {odWm anWm : Option Addr} {slWm : Array (Option Value)} {ocWm kVWm dcWm pmWm cdWm ctWm : Value}
    {odEq anEq : Option Addr} {slEq : Array (Option Value)} {ocEq kVEq dcEq pmEq cdEq ctEq : Value}
    {odLn anLn : Option Addr} {slLn : Array (Option Value)} {ocLn kVLn dcLn pmLn cdLn ctLn : Value}
    {odpI anpI : Option Addr} {slpI : Array (Option Value)} {ocpI kVpI dcpI pmpI cdpI ctpI : Value}
    {odpN anpN : Option Addr} {slpN : Array (Option Value)} {ocpN kVpN dcpN pmpN cdpN ctpN : Value}
    {odpS anpS : Option Addr} {slpS : Array (Option Value)} {ocpS kVpS dcpS pmpS cdpS ctpS : Value}
    {odpD anpD : Option Addr} {slpD : Array (Option Value)} {ocpD kVpD dcpD pmpD cdpD ctpD : Value}
    {odpA anpA : Option Addr} {slpA : Array (Option Value)} {ocpA kVpA dcpA pmpA cdpA ctpA : Value}
    {odpG anpG : Option Addr} {slpG : Array (Option Value)} {ocpG kVpG dcpG pmpG cdpG ctpG : Value}
    {odNu anNu : Option Addr} {slNu : Array (Option Value)} {ocNu kVNu dcNu pmNu cdNu ctNu : Value}
    {odAs anAs : Option Addr} {slAs : Array (Option Value)} {ocAs kVAs dcAs pmAs cdAs ctAs : Value}
    {odPl anPl : Option Addr} {slPl : Array (Option Value)} {ocPl kVPl dcPl pmPl cdPl ctPl : Value}
    {odMo anMo : Option Addr} {slMo : Array (Option Value)} {ocMo kVMo dcMo pmMo cdMo ctMo : Value}
    {odNP anNP : Option Addr} {slNP : Array (Option Value)} {ocNP kVNP dcNP pmNP cdNP ctNP : Value}
    {odNM anNM : Option Addr} {slNM : Array (Option Value)} {ocNM kVNM dcNM pmNM cdNM ctNM : Value}
    {odBg anBg : Option Addr} {slBg : Array (Option Value)} {ocBg kVBg dcBg pmBg cdBg ctBg : Value}
    {odN anN : Option Addr} {slN : Array (Option Value)} {ocN kVN dcN pmN cdN ctN : Value}
    {odNa anNa : Option Addr} {slNa : Array (Option Value)} {ocNa kVNa dcNa pmNa cdNa ctNa : Value}
    {odSe anSe : Option Addr} {slSe : Array (Option Value)} {ocSe kVSe dcSe pmSe cdSe ctSe : Value}
    {odPc anPc : Option Addr} {slPc : Array (Option Value)} {ocPc kVPc dcPc pmPc cdPc ctPc : Value}
    {odMd anMd : Option Addr} {slMd : Array (Option Value)} {ocMd kVMd dcMd pmMd cdMd ctMd : Value}
    {odTo anTo : Option Addr} {slTo : Array (Option Value)} {ocTo kVTo dcTo pmTo cdTo ctTo : Value}
    {odKR anKR : Option Addr} {slKR : Array (Option Value)} {ocKR kVKR dcKR pmKR cdKR ctKR : Value}
    {odL anL : Option Addr} {slL : Array (Option Value)} {ocL kVL dcL pmL cdL ctL : Value}
    {tMOST_SETTINGS : Tok}
    {tMOST_VALUE : Tok}
    {tMOST_STANDINGS : Tok}
    {tLONGEST_NAME : Tok}
    {tMOST_PLACES : Tok}
    (AeS : PySem.W.nsIn K mainGlobals "BadSettings" = some (some (.ref CS)))
    (XeS : K.lookup CS = some (excClassObj nmeS qeS CS NeS bseS bmeS true sneS subeS abeS coleS ddeS m0eS m1eS m2eS m3eS m5eS "ValueError.__new__"))
    (ReS : PySem.HandSPX.refsVE bmeS = true)
    (SeS : PySem.W.findIn K (.ref CS) "__setattr__" = some (some (.builtin "object.__setattr__")))
    (EeS : PySem.W.subIn K (.ref CS) (.type "BaseException") = some true)
    (TeS : PySem.W.typeIn K (.ref CS) = some (.type "type"))
    (KeS : PySem.W.keepIn K (.ref CS) = true)
    (IeS : PySem.W.findIn K (.ref CS) "__init__" = some (some (.ref fES)))
    (YeS : PySem.W.typeIn K (.ref fES) = some (.type "function"))
    (NeS : PySem.W.findIn K (.ref CS) "place" = some none)
    (GeS : PySem.W.findIn K (.ref CS) "__getattribute__" = some (some (.builtin "BaseException.__getattribute__")))
    (HeS : PySem.W.findIn K (.ref CS) "__getattr__" = some none)
    (DeS : PySem.W.hasDictIn K CS = true)
    (MeS : PySem.W.exmOne K (.ref CS) (.ref CS) = some true)
    (lieS : K.lookup fES = some ⟨ocieS, odieS, .func (PySem.W.fnOf "__init__" "BadSettings.__init__" (defArgs sIni) (defBody sIni) (defScope sIni) .none kVieS dcieS pmieS anieS cdieS ctieS), slieS⟩)
    (dieS : PySem.W.codeIn K cdieS "BadSettings.__init__" = true)
    (eieS : PySem.W.keepIn K (.ref fES) = true)
    (AeP : PySem.W.nsIn K mainGlobals "BadPlaces" = some (some (.ref CP)))
    (XeP : K.lookup CP = some (excClassObj nmeP qeP CP NeP bseP bmeP true sneP subeP abeP coleP ddeP m0eP m1eP m2eP m3eP m5eP "ValueError.__new__"))
    (ReP : PySem.HandSPX.refsVE bmeP = true)
    (SeP : PySem.W.findIn K (.ref CP) "__setattr__" = some (some (.builtin "object.__setattr__")))
    (EeP : PySem.W.subIn K (.ref CP) (.type "BaseException") = some true)
    (TeP : PySem.W.typeIn K (.ref CP) = some (.type "type"))
    (KeP : PySem.W.keepIn K (.ref CP) = true)
    (IeP : PySem.W.findIn K (.ref CP) "__init__" = some (some (.ref fEP)))
    (YeP : PySem.W.typeIn K (.ref fEP) = some (.type "function"))
    (NeP : PySem.W.findIn K (.ref CP) "place" = some none)
    (GeP : PySem.W.findIn K (.ref CP) "__getattribute__" = some (some (.builtin "BaseException.__getattribute__")))
    (HeP : PySem.W.findIn K (.ref CP) "__getattr__" = some none)
    (DeP : PySem.W.hasDictIn K CP = true)
    (MeP : PySem.W.exmOne K (.ref CP) (.ref CP) = some true)
    (lieP : K.lookup fEP = some ⟨ocieP, odieP, .func (PySem.W.fnOf "__init__" "BadPlaces.__init__" (defArgs sIniP) (defBody sIniP) (defScope sIniP) .none kVieP dcieP pmieP anieP cdieP ctieP), slieP⟩)
    (dieP : PySem.W.codeIn K cdieP "BadPlaces.__init__" = true)
    (eieP : PySem.W.keepIn K (.ref fEP) = true)
    (AeM : PySem.W.nsIn K mainGlobals "BadModes" = some (some (.ref CM)))
    (XeM : K.lookup CM = some (excClassObj nmeM qeM CM NeM bseM bmeM true sneM subeM abeM coleM ddeM m0eM m1eM m2eM m3eM m5eM "ValueError.__new__"))
    (ReM : PySem.HandSPX.refsVE bmeM = true)
    (SeM : PySem.W.findIn K (.ref CM) "__setattr__" = some (some (.builtin "object.__setattr__")))
    (EeM : PySem.W.subIn K (.ref CM) (.type "BaseException") = some true)
    (TeM : PySem.W.typeIn K (.ref CM) = some (.type "type"))
    (KeM : PySem.W.keepIn K (.ref CM) = true)
    (IeM : PySem.W.findIn K (.ref CM) "__init__" = some (some (.ref fEM)))
    (YeM : PySem.W.typeIn K (.ref fEM) = some (.type "function"))
    (NeM : PySem.W.findIn K (.ref CM) "place" = some none)
    (GeM : PySem.W.findIn K (.ref CM) "__getattribute__" = some (some (.builtin "BaseException.__getattribute__")))
    (HeM : PySem.W.findIn K (.ref CM) "__getattr__" = some none)
    (DeM : PySem.W.hasDictIn K CM = true)
    (MeM : PySem.W.exmOne K (.ref CM) (.ref CM) = some true)
    (lieM : K.lookup fEM = some ⟨ocieM, odieM, .func (PySem.W.fnOf "__init__" "BadModes.__init__" (defArgs sIniM) (defBody sIniM) (defScope sIniM) .none kVieM dcieM pmieM anieM cdieM ctieM), slieM⟩)
    (dieM : PySem.W.codeIn K cdieM "BadModes.__init__" = true)
    (eieM : PySem.W.keepIn K (.ref fEM) = true)
    (AeI : PySem.W.nsIn K mainGlobals "Missing" = some (some (.ref CI)))
    (iI8 : PySem.W.findIn K (.ref CI) "__init__" = some (some (.ref fEI)))
    (lieI : K.lookup fEI = some ⟨ocieI, odieI, .func (PySem.W.fnOf "__init__" "Missing.__init__" (defArgs sIniI) (defBody sIniI) (defScope sIniI) .none kVieI dcieI pmieI anieI cdieI ctieI), slieI⟩)
    (dieI : PySem.W.codeIn K cdieI "Missing.__init__" = true)
    (eieI : PySem.W.keepIn K (.ref fEI) = true)
    (nI8 : PySem.W.excInitIn K CI oT6 "LookupError.__new__" = true)
    (oI8h : PySem.W.excOver K CI oT6 = true)
    (sI8 : PySem.W.findIn K (.ref CI) "__setattr__" = some (some (.builtin "object.__setattr__")))
    (tI8 : PySem.W.takerIn K CI "name" = some none)
    (hI8 : PySem.W.hasDictIn K CI = true)
    (wI8 : PySem.W.isFn K (.ref fEI) = true)
    (kI8 : PySem.W.keepIn K (.ref CI) = true)
    (gaI8 : PySem.W.findIn K (.ref CI) "__getattribute__" = some (some (.builtin "BaseException.__getattribute__")))
    (ggI8 : PySem.W.findIn K (.ref CI) "__getattr__" = some none)
    (xI8 : PySem.W.subIn K (.ref CI) (.type "BaseException") = some true)
    (yI8 : PySem.W.typeIn K (.ref CI) = some (.type "type"))
    (noI8 : PySem.W.findIn K (.ref CI) "name" = some none)
    (mIM : PySem.W.exmOne K (.ref CI) (.ref CM) = some false)
    (mII : PySem.W.exmOne K (.ref CI) (.ref CI) = some true)
    (AR : PySem.W.nsIn K mainGlobals "Request" = some (some (.ref C)))
    (IR : PySem.W.findIn K (.ref C) "__init__" = some (some (.ref fR)))
    (mkR : PySem.W.makesIn K C = true)
    (fnR : PySem.W.isFn K (.ref fR) = true)
    (kpR : PySem.W.keepIn K (.ref C) = true)
    (pgR : PySem.W.plainGet K C Str.empty = true)
    (hdR : PySem.W.hasDictIn K C = true)
    (poR : PySem.W.plainOver K C = true)
    (saR : PySem.W.findIn K (.ref C) "__setattr__" = some (some (.builtin "object.__setattr__")))
    (n0R : PySem.W.findIn K (.ref C) "settings" = some none)
    (n1R : PySem.W.findIn K (.ref C) "places" = some none)
    (n2R : PySem.W.findIn K (.ref C) "modes" = some none)
    (lR : K.lookup fR = some ⟨ocR, odR, .func (PySem.W.fnOf "__init__" "Request.__init__" (defArgs sReqIni) (defBody sReqIni) (defScope sReqIni) (.ref Td) kVR dcR pmR anR cdR ctR), slR⟩)
    (dR : PySem.W.codeIn K cdR "Request.__init__" = true)
    (eR : PySem.W.keepIn K (.ref fR) = true)
    (lT : K.lookup Td = some ⟨ocT, odT, .seq #[.none] nT, slT⟩)
    (AE : PySem.W.nsIn K mainGlobals "END" = some (some (.ref aE)))
    (AM : PySem.W.nsIn K mainGlobals "MODES" = some (some (.ref aM)))
    (lE : K.lookup aE = some ⟨.type "tuple", dE, .seq #[.str "end" tE] kE, sE⟩)
    (lM : K.lookup aM = some ⟨.type "tuple", dM, .seq #[.str "live" tM1, .str "met" tM2, .str "begin" tM3] kM, sM⟩)
    (IKp : PySem.W.findIn K (.ref C) "keeping" = some (some (.ref fKp)))
    (lKp : K.lookup fKp = some ⟨ocKp, odKp, .func (PySem.W.fnOf "keeping" "Request.keeping" (defArgs sReqKeep) (defBody sReqKeep) (defScope sReqKeep) .none kVKp dcKp pmKp anKp cdKp ctKp), slKp⟩)
    (dKp : PySem.W.codeIn K cdKp "Request.keeping" = true)
    (eKp : PySem.W.keepIn K (.ref fKp) = true)
    (isfKp : PySem.W.isFn K (.ref fKp) = true)
    (IWm : PySem.W.findIn K (.ref C) "with_modes" = some (some (.ref fWm)))
    (lWm : K.lookup fWm = some ⟨ocWm, odWm, .func (PySem.W.fnOf "with_modes" "Request.with_modes" (defArgs sReqWith) (defBody sReqWith) (defScope sReqWith) .none kVWm dcWm pmWm anWm cdWm ctWm), slWm⟩)
    (dWm : PySem.W.codeIn K cdWm "Request.with_modes" = true)
    (eWm : PySem.W.keepIn K (.ref fWm) = true)
    (isfWm : PySem.W.isFn K (.ref fWm) = true)
    (IEq : PySem.W.findIn K (.ref C) "__eq__" = some (some (.ref fE)))
    (lEq : K.lookup fE = some ⟨ocEq, odEq, .func (PySem.W.fnOf "__eq__" "Request.__eq__" (defArgs sReqEq) (defBody sReqEq) (defScope sReqEq) .none kVEq dcEq pmEq anEq cdEq ctEq), slEq⟩)
    (dEq : PySem.W.codeIn K cdEq "Request.__eq__" = true)
    (eEq : PySem.W.keepIn K (.ref fE) = true)
    (isfEq : PySem.W.isFn K (.ref fE) = true)
    (ILn : PySem.W.findIn K (.ref C) "__len__" = some (some (.ref fL)))
    (lLn : K.lookup fL = some ⟨ocLn, odLn, .func (PySem.W.fnOf "__len__" "Request.__len__" (defArgs sReqLen) (defBody sReqLen) (defScope sReqLen) .none kVLn dcLn pmLn anLn cdLn ctLn), slLn⟩)
    (dLn : PySem.W.codeIn K cdLn "Request.__len__" = true)
    (eLn : PySem.W.keepIn K (.ref fL) = true)
    (isfLn : PySem.W.isFn K (.ref fL) = true)
    (nER : PySem.W.findIn K (.ref C) "__ne__" = some (some (.builtin "object.__ne__")))
    (obR : PySem.W.subIn K (.ref C) (.type "object") = some true)
    (subNoneType : PySem.W.subIn K (.type "NoneType") (.ref C) = some false)
    (subbool : PySem.W.subIn K (.type "bool") (.ref C) = some false)
    (subint : PySem.W.subIn K (.type "int") (.ref C) = some false)
    (substr : PySem.W.subIn K (.type "str") (.ref C) = some false)
    (sublist : PySem.W.subIn K (.type "list") (.ref C) = some false)
    (subtuple : PySem.W.subIn K (.type "tuple") (.ref C) = some false)
    (subdict : PySem.W.subIn K (.type "dict") (.ref C) = some false)
    (kitNoneType : PySem.W.kitOne K (.type "NoneType") (.ref C) = some false)
    (kitbool : PySem.W.kitOne K (.type "bool") (.ref C) = some false)
    (kitint : PySem.W.kitOne K (.type "int") (.ref C) = some false)
    (kitstr : PySem.W.kitOne K (.type "str") (.ref C) = some false)
    (kitlist : PySem.W.kitOne K (.type "list") (.ref C) = some false)
    (kittuple : PySem.W.kitOne K (.type "tuple") (.ref C) = some false)
    (kitdict : PySem.W.kitOne K (.type "dict") (.ref C) = some false)
    (iha : PySem.W.findIn K (.ref C) "__class__" = some (some (.builtin "object.__class__")))
    (ihn : PySem.W.specialIn K (.builtin "object.__class__") "__get__" = some (some (.builtin "getset_descriptor.__get__")))
    (iht : PySem.W.takesIn K (.builtin "object.__class__") = some true)
    (ihm : PySem.W.mroIn K C (.type "object") = some true)
    (ihe : PySem.W.kitOne K (.ref C) (.ref C) = some true)
    (apI : PySem.W.nsIn K mainGlobals "is_int" = some (some (.ref pI)))
    (lpI : K.lookup pI = some ⟨ocpI, odpI, .func (PySem.W.fnOf "is_int" "is_int" (defArgs sPInt) (defBody sPInt) (defScope sPInt) .none kVpI dcpI pmpI anpI cdpI ctpI), slpI⟩)
    (dpI : PySem.W.codeIn K cdpI "is_int" = true)
    (epI : PySem.W.keepIn K (.ref pI) = true)
    (apN : PySem.W.nsIn K mainGlobals "is_name" = some (some (.ref pN)))
    (lpN : K.lookup pN = some ⟨ocpN, odpN, .func (PySem.W.fnOf "is_name" "is_name" (defArgs sPName) (defBody sPName) (defScope sPName) .none kVpN dcpN pmpN anpN cdpN ctpN), slpN⟩)
    (dpN : PySem.W.codeIn K cdpN "is_name" = true)
    (epN : PySem.W.keepIn K (.ref pN) = true)
    (apS : PySem.W.nsIn K mainGlobals "is_setting" = some (some (.ref pS)))
    (lpS : K.lookup pS = some ⟨ocpS, odpS, .func (PySem.W.fnOf "is_setting" "is_setting" (defArgs sPSet) (defBody sPSet) (defScope sPSet) .none kVpS dcpS pmpS anpS cdpS ctpS), slpS⟩)
    (dpS : PySem.W.codeIn K cdpS "is_setting" = true)
    (epS : PySem.W.keepIn K (.ref pS) = true)
    (apD : PySem.W.nsIn K mainGlobals "need_settings" = some (some (.ref pD)))
    (lpD : K.lookup pD = some ⟨ocpD, odpD, .func (PySem.W.fnOf "need_settings" "need_settings" (defArgs sNeed) (defBody sNeed) (defScope sNeed) .none kVpD dcpD pmpD anpD cdpD ctpD), slpD⟩)
    (dpD : PySem.W.codeIn K cdpD "need_settings" = true)
    (epD : PySem.W.keepIn K (.ref pD) = true)
    (apA : PySem.W.nsIn K mainGlobals "names_of" = some (some (.ref pA)))
    (lpA : K.lookup pA = some ⟨ocpA, odpA, .func (PySem.W.fnOf "names_of" "names_of" (defArgs sPNames) (defBody sPNames) (defScope sPNames) .none kVpA dcpA pmpA anpA cdpA ctpA), slpA⟩)
    (dpA : PySem.W.codeIn K cdpA "names_of" = true)
    (epA : PySem.W.keepIn K (.ref pA) = true)
    (apG : PySem.W.nsIn K mainGlobals "grid_of" = some (some (.ref pG)))
    (lpG : K.lookup pG = some ⟨ocpG, odpG, .func (PySem.W.fnOf "grid_of" "grid_of" (defArgs sPGrid) (defBody sPGrid) (defScope sPGrid) .none kVpG dcpG pmpG anpG cdpG ctpG), slpG⟩)
    (dpG : PySem.W.codeIn K cdpG "grid_of" = true)
    (epG : PySem.W.keepIn K (.ref pG) = true)
    (aNu : PySem.W.nsIn K mainGlobals "is_number" = some (some (.ref fNu)))
    (lNu : K.lookup fNu = some ⟨ocNu, odNu, .func (PySem.W.fnOf "is_number" "is_number" (defArgs sPNum) (defBody sPNum) (defScope sPNum) .none kVNu dcNu pmNu anNu cdNu ctNu), slNu⟩)
    (dNu : PySem.W.codeIn K cdNu "is_number" = true)
    (eNu : PySem.W.keepIn K (.ref fNu) = true)
    (aAs : PySem.W.nsIn K mainGlobals "is_ask" = some (some (.ref fAs)))
    (lAs : K.lookup fAs = some ⟨ocAs, odAs, .func (PySem.W.fnOf "is_ask" "is_ask" (defArgs sPAsk) (defBody sPAsk) (defScope sPAsk) .none kVAs dcAs pmAs anAs cdAs ctAs), slAs⟩)
    (dAs : PySem.W.codeIn K cdAs "is_ask" = true)
    (eAs : PySem.W.keepIn K (.ref fAs) = true)
    (aPl : PySem.W.nsIn K mainGlobals "is_place" = some (some (.ref fPl)))
    (lPl : K.lookup fPl = some ⟨ocPl, odPl, .func (PySem.W.fnOf "is_place" "is_place" (defArgs sPPlace) (defBody sPPlace) (defScope sPPlace) .none kVPl dcPl pmPl anPl cdPl ctPl), slPl⟩)
    (dPl : PySem.W.codeIn K cdPl "is_place" = true)
    (ePl : PySem.W.keepIn K (.ref fPl) = true)
    (aMo : PySem.W.nsIn K mainGlobals "is_mode" = some (some (.ref fMo)))
    (lMo : K.lookup fMo = some ⟨ocMo, odMo, .func (PySem.W.fnOf "is_mode" "is_mode" (defArgs sPMode) (defBody sPMode) (defScope sPMode) .none kVMo dcMo pmMo anMo cdMo ctMo), slMo⟩)
    (dMo : PySem.W.codeIn K cdMo "is_mode" = true)
    (eMo : PySem.W.keepIn K (.ref fMo) = true)
    (aNP : PySem.W.nsIn K mainGlobals "need_places" = some (some (.ref fNP)))
    (lNP : K.lookup fNP = some ⟨ocNP, odNP, .func (PySem.W.fnOf "need_places" "need_places" (defArgs sNPlaces) (defBody sNPlaces) (defScope sNPlaces) .none kVNP dcNP pmNP anNP cdNP ctNP), slNP⟩)
    (dNP : PySem.W.codeIn K cdNP "need_places" = true)
    (eNP : PySem.W.keepIn K (.ref fNP) = true)
    (aNM : PySem.W.nsIn K mainGlobals "need_modes" = some (some (.ref fNM)))
    (lNM : K.lookup fNM = some ⟨ocNM, odNM, .func (PySem.W.fnOf "need_modes" "need_modes" (defArgs sNModes) (defBody sNModes) (defScope sNModes) .none kVNM dcNM pmNM anNM cdNM ctNM), slNM⟩)
    (dNM : PySem.W.codeIn K cdNM "need_modes" = true)
    (eNM : PySem.W.keepIn K (.ref fNM) = true)
    (aBg : PySem.W.nsIn K mainGlobals "_law_begun" = some (some (.ref fBg)))
    (lBg : K.lookup fBg = some ⟨ocBg, odBg, .func (PySem.W.fnOf "_law_begun" "_law_begun" (defArgs sBegun) (defBody sBegun) (defScope sBegun) .none kVBg dcBg pmBg anBg cdBg ctBg), slBg⟩)
    (dBg : PySem.W.codeIn K cdBg "_law_begun" = true)
    (eBg : PySem.W.keepIn K (.ref fBg) = true)
    (aN : PySem.W.nsIn K mainGlobals "_law_next" = some (some (.ref fN)))
    (lN : K.lookup fN = some ⟨ocN, odN, .func (PySem.W.fnOf "_law_next" "_law_next" (defArgs sNext) (defBody sNext) (defScope sNext) .none kVN dcN pmN anN cdN ctN), slN⟩)
    (dN : PySem.W.codeIn K cdN "_law_next" = true)
    (eN : PySem.W.keepIn K (.ref fN) = true)
    (aNa : PySem.W.nsIn K mainGlobals "_law_names" = some (some (.ref fM)))
    (lNa : K.lookup fM = some ⟨ocNa, odNa, .func (PySem.W.fnOf "_law_names" "_law_names" (defArgs sNames) (defBody sNames) (defScope sNames) .none kVNa dcNa pmNa anNa cdNa ctNa), slNa⟩)
    (dNa : PySem.W.codeIn K cdNa "_law_names" = true)
    (eNa : PySem.W.keepIn K (.ref fM) = true)
    (aSe : PySem.W.nsIn K mainGlobals "_law_settings" = some (some (.ref fSe)))
    (lSe : K.lookup fSe = some ⟨ocSe, odSe, .func (PySem.W.fnOf "_law_settings" "_law_settings" (defArgs sSettings) (defBody sSettings) (defScope sSettings) .none kVSe dcSe pmSe anSe cdSe ctSe), slSe⟩)
    (dSe : PySem.W.codeIn K cdSe "_law_settings" = true)
    (eSe : PySem.W.keepIn K (.ref fSe) = true)
    (aPc : PySem.W.nsIn K mainGlobals "_law_places" = some (some (.ref fPc)))
    (lPc : K.lookup fPc = some ⟨ocPc, odPc, .func (PySem.W.fnOf "_law_places" "_law_places" (defArgs sPlaces) (defBody sPlaces) (defScope sPlaces) .none kVPc dcPc pmPc anPc cdPc ctPc), slPc⟩)
    (dPc : PySem.W.codeIn K cdPc "_law_places" = true)
    (ePc : PySem.W.keepIn K (.ref fPc) = true)
    (aMd : PySem.W.nsIn K mainGlobals "_law_modes" = some (some (.ref fMd)))
    (lMd : K.lookup fMd = some ⟨ocMd, odMd, .func (PySem.W.fnOf "_law_modes" "_law_modes" (defArgs sModes) (defBody sModes) (defScope sModes) .none kVMd dcMd pmMd anMd cdMd ctMd), slMd⟩)
    (dMd : PySem.W.codeIn K cdMd "_law_modes" = true)
    (eMd : PySem.W.keepIn K (.ref fMd) = true)
    (aTo : PySem.W.nsIn K mainGlobals "_law_told" = some (some (.ref fTo)))
    (lTo : K.lookup fTo = some ⟨ocTo, odTo, .func (PySem.W.fnOf "_law_told" "_law_told" (defArgs sTold) (defBody sTold) (defScope sTold) .none kVTo dcTo pmTo anTo cdTo ctTo), slTo⟩)
    (dTo : PySem.W.codeIn K cdTo "_law_told" = true)
    (eTo : PySem.W.keepIn K (.ref fTo) = true)
    (aKR : PySem.W.nsIn K mainGlobals "_law_kept_right" = some (some (.ref fKR)))
    (lKR : K.lookup fKR = some ⟨ocKR, odKR, .func (PySem.W.fnOf "_law_kept_right" "_law_kept_right" (defArgs sKept) (defBody sKept) (defScope sKept) .none kVKR dcKR pmKR anKR cdKR ctKR), slKR⟩)
    (dKR : PySem.W.codeIn K cdKR "_law_kept_right" = true)
    (eKR : PySem.W.keepIn K (.ref fKR) = true)
    (aL : PySem.W.nsIn K mainGlobals "law" = some (some (.ref fL9)))
    (lL : K.lookup fL9 = some ⟨ocL, odL, .func (PySem.W.fnOf "law" "law" (defArgs sLaw) (defBody sLaw) (defScope sLaw) .none kVL dcL pmL anL cdL ctL), slL⟩)
    (dL : PySem.W.codeIn K cdL "law" = true)
    (eL : PySem.W.keepIn K (.ref fL9) = true)
    (cMOST_SETTINGS : PySem.W.nsIn K mainGlobals "MOST_SETTINGS" = some (some (.int 3 tMOST_SETTINGS)))
    (cMOST_VALUE : PySem.W.nsIn K mainGlobals "MOST_VALUE" = some (some (.int 3 tMOST_VALUE)))
    (cMOST_STANDINGS : PySem.W.nsIn K mainGlobals "MOST_STANDINGS" = some (some (.int 12 tMOST_STANDINGS)))
    (cLONGEST_NAME : PySem.W.nsIn K mainGlobals "LONGEST_NAME" = some (some (.int 8 tLONGEST_NAME)))
    (cMOST_PLACES : PySem.W.nsIn K mainGlobals "MOST_PLACES" = some (some (.int 16 tMOST_PLACES)))
    (z_list : PySem.W.nsIn K mainGlobals "list" = some none)
    (z_len : PySem.W.nsIn K mainGlobals "len" = some none)
    (z_int : PySem.W.nsIn K mainGlobals "int" = some none)
    (z_range : PySem.W.nsIn K mainGlobals "range" = some none)
    (z_tuple : PySem.W.nsIn K mainGlobals "tuple" = some none)
    (z_zip : PySem.W.nsIn K mainGlobals "zip" = some none)
    (z_isinstance : PySem.W.nsIn K mainGlobals "isinstance" = some none)
    (z_str : PySem.W.nsIn K mainGlobals "str" = some none)
    (z_bool : PySem.W.nsIn K mainGlobals "bool" = some none)
    (z_enumerate : PySem.W.nsIn K mainGlobals "enumerate" = some none)
    (z_all : PySem.W.nsIn K mainGlobals "all" = some none)
    (z_repr : PySem.W.nsIn K mainGlobals "repr" = some none)
    (z_min : PySem.W.nsIn K mainGlobals "min" = some none)
    (nP : Pk ≠ Pl) (hck : cdKR = .ref ck) (hc : cdL = .ref c) : LawRunTs P w K mg fa [(ck, Pk), (c, Pl)] := by
  have e := hfa.symm.trans (PySem.W.mg_of X G aL)
  cases e
  have FieS := fun_mk (st := sIni) lieS dieS eieS
  have bieS := FieS.binds (ps := ["self", "place"]) fun _ _ _ _ _ _ us hl => match us, hl with | [_, _], _ => rfl
  have OXeS : OexC K CS := ⟨⟨_, _, _, _, _, _, _, _, _, _, _, _, _, _, _, XeS, ReS⟩, SeS, EeS, TeS, KeS⟩
  have ECeS : ErrC K CS fES := ⟨OXeS, IeS, YeS, NeS⟩
  have XFeS : XfC K CS := ⟨GeS, HeS, EeS, DeS⟩
  have FieP := fun_mk (st := sIniP) lieP dieP eieP
  have bieP := FieP.binds (ps := ["self", "place"]) fun _ _ _ _ _ _ us hl => match us, hl with | [_, _], _ => rfl
  have OXeP : OexC K CP := ⟨⟨_, _, _, _, _, _, _, _, _, _, _, _, _, _, _, XeP, ReP⟩, SeP, EeP, TeP, KeP⟩
  have ECeP : ErrC K CP fEP := ⟨OXeP, IeP, YeP, NeP⟩
  have XFeP : XfC K CP := ⟨GeP, HeP, EeP, DeP⟩
  have FieM := fun_mk (st := sIniM) lieM dieM eieM
  have bieM := FieM.binds (ps := ["self", "place"]) fun _ _ _ _ _ _ us hl => match us, hl with | [_, _], _ => rfl
  have OXeM : OexC K CM := ⟨⟨_, _, _, _, _, _, _, _, _, _, _, _, _, _, _, XeM, ReM⟩, SeM, EeM, TeM, KeM⟩
  have ECeM : ErrC K CM fEM := ⟨OXeM, IeM, YeM, NeM⟩
  have XFeM : XfC K CM := ⟨GeM, HeM, EeM, DeM⟩
  have FieI := fun_mk (st := sIniI) lieI dieI eieI
  have FR : FunD K "__init__" "Request.__init__" (defArgs sReqIni) (defBody sReqIni) (defScope sReqIni) [.non] [] fR _ := ⟨⟨ocR, odR, _, kVR, dcR, pmR, anR, cdR, ctR, slR, rfl, lR, dR, .inr ⟨nofun, Td, _, [.none], nT, rfl, lT, rfl, .cons rfl .nil⟩, .inl rfl⟩, eR⟩
  obtain ⟨ds4, vd4, b4⟩ := FR.binds1 (ps := ["self", "settings", "places", "modes"]) 4 1 nofun rfl (fun T kV doc pm an cdv ct us its h1 h2 => match us, its, h1, h2 with | [_, _, _, _], [_], _, _ => ⟨_, rfl, rfl⟩)
  cases (show Vals [] ds4 from vd4)
  obtain ⟨ds3, vd3, b3⟩ := FR.binds1 (ps := ["self", "settings", "places", "modes"]) 3 0 nofun rfl (fun T kV doc pm an cdv ct us its h1 h2 => match us, its, h1, h2 with | [_, _, _], [_], _, _ => ⟨_, rfl, rfl⟩)
  obtain ⟨dn, edn⟩ : ∃ dn, ds3 = [dn] := by
    cases (show Vals [.non] ds3 from vd3) with
    | cons _ r => cases r; exact ⟨_, rfl⟩
  subst edn
  have MkC : Mk K C fR := ⟨mkR, IR, fnR, kpR⟩
  have RC : ReqC K C := ⟨⟨pgR, hdR, poR, saR⟩, n0R, n1R, n2R⟩
  have WT : WrT K aE aM := ⟨fun H => .inr ⟨_, _, _, lE, rfl, rfl, (by show 1 ≤ sizeLine; decide), .cons ⟨_, rfl⟩ .nil⟩, fun H => .inr ⟨_, _, _, lM, rfl, rfl, (by show 3 ≤ sizeLine; decide), .cons ⟨_, rfl⟩ (.cons ⟨_, rfl⟩ (.cons ⟨_, rfl⟩ .nil))⟩⟩
  have FKp := fun_mk (st := sReqKeep) lKp dKp eKp
  have MKp : Meth K C "keeping" fKp := ⟨IKp, isfKp, eKp⟩
  have FWm := fun_mk (st := sReqWith) lWm dWm eWm
  have bWm := FWm.binds (ps := ["self", "modes"]) fun _ _ _ _ _ _ us hl => match us, hl with | [_, _], _ => rfl
  have MWm : Meth K C "with_modes" fWm := ⟨IWm, isfWm, eWm⟩
  have FEq := fun_mk (st := sReqEq) lEq dEq eEq
  have bEq := FEq.binds (ps := ["self", "other"]) fun _ _ _ _ _ _ us hl => match us, hl with | [_, _], _ => rfl
  have MEq : Meth K C "__eq__" fE := ⟨IEq, isfEq, eEq⟩
  have FLn := fun_mk (st := sReqLen) lLn dLn eLn
  have bLn := FLn.binds (ps := ["self"]) fun _ _ _ _ _ _ us hl => match us, hl with | [_], _ => rfl
  have MLn : Meth K C "__len__" fL := ⟨ILn, isfLn, eLn⟩
  have FpI := fun_mk (st := sPInt) lpI dpI epI
  have bpI := FpI.binds (ps := ["thing"]) fun _ _ _ _ _ _ us hl => match us, hl with | [_], _ => rfl
  have FpN := fun_mk (st := sPName) lpN dpN epN
  have bpN := FpN.binds (ps := ["thing"]) fun _ _ _ _ _ _ us hl => match us, hl with | [_], _ => rfl
  have FpS := fun_mk (st := sPSet) lpS dpS epS
  have bpS := FpS.binds (ps := ["thing"]) fun _ _ _ _ _ _ us hl => match us, hl with | [_], _ => rfl
  have FpD := fun_mk (st := sNeed) lpD dpD epD
  have bpD := FpD.binds (ps := ["thing"]) fun _ _ _ _ _ _ us hl => match us, hl with | [_], _ => rfl
  have FpA := fun_mk (st := sPNames) lpA dpA epA
  have bpA := FpA.binds (ps := ["settings"]) fun _ _ _ _ _ _ us hl => match us, hl with | [_], _ => rfl
  have FpG := fun_mk (st := sPGrid) lpG dpG epG
  have bpG := FpG.binds (ps := ["settings"]) fun _ _ _ _ _ _ us hl => match us, hl with | [_], _ => rfl
  have FNu := fun_mk (st := sPNum) lNu dNu eNu
  have bNu := FNu.binds (ps := ["many", "thing"]) fun _ _ _ _ _ _ us hl => match us, hl with | [_, _], _ => rfl
  have FAs := fun_mk (st := sPAsk) lAs dAs eAs
  have bAs := FAs.binds (ps := ["settings", "many", "setting", "nexts"]) fun _ _ _ _ _ _ us hl => match us, hl with | [_, _, _, _], _ => rfl
  have FPl := fun_mk (st := sPPlace) lPl dPl ePl
  have bPl := FPl.binds (ps := ["settings", "many", "thing"]) fun _ _ _ _ _ _ us hl => match us, hl with | [_, _, _], _ => rfl
  have FMo := fun_mk (st := sPMode) lMo dMo eMo
  have bMo := FMo.binds (ps := ["thing"]) fun _ _ _ _ _ _ us hl => match us, hl with | [_], _ => rfl
  have FNP := fun_mk (st := sNPlaces) lNP dNP eNP
  have bNP := FNP.binds (ps := ["settings", "places"]) fun _ _ _ _ _ _ us hl => match us, hl with | [_, _], _ => rfl
  have FNM := fun_mk (st := sNModes) lNM dNM eNM
  have bNM := FNM.binds (ps := ["settings", "modes"]) fun _ _ _ _ _ _ us hl => match us, hl with | [_, _], _ => rfl
  have FBg := fun_mk (st := sBegun) lBg dBg eBg
  have bBg := FBg.binds (ps := ["script"]) fun _ _ _ _ _ _ us hl => match us, hl with | [_], _ => rfl
  have FN := fun_mk (st := sNext) lN dN eN
  have bN := FN.binds (ps := ["m", "many"]) fun _ _ _ _ _ _ us hl => match us, hl with | [_, _], _ => rfl
  have FNa := fun_mk (st := sNames) lNa dNa eNa
  have bNa := FNa.binds (ps := ["m", "many"]) fun _ _ _ _ _ _ us hl => match us, hl with | [_, _], _ => rfl
  have FSe := fun_mk (st := sSettings) lSe dSe eSe
  have bSe := FSe.binds (ps := ["m"]) fun _ _ _ _ _ _ us hl => match us, hl with | [_], _ => rfl
  have FPc := fun_mk (st := sPlaces) lPc dPc ePc
  have bPc := FPc.binds (ps := ["m", "spots", "most"]) fun _ _ _ _ _ _ us hl => match us, hl with | [_, _, _], _ => rfl
  have FMd := fun_mk (st := sModes) lMd dMd eMd
  have bMd := FMd.binds (ps := ["m", "spots"]) fun _ _ _ _ _ _ us hl => match us, hl with | [_, _], _ => rfl
  have FTo := fun_mk (st := sTold) lTo dTo eTo
  have bTo := FTo.binds (ps := ["call"]) fun _ _ _ _ _ _ us hl => match us, hl with | [_], _ => rfl
  have FKR := fun_mk (st := sKept) lKR dKR eKR
  have bKR := FKR.binds (ps := ["m"]) fun _ _ _ _ _ _ us hl => match us, hl with | [_], _ => rfl
  have FL := fun_mk (st := sLaw) lL dL eL
  have T0 : TxtS mg fN fM := ⟨⟨⟨PySem.W.mg_none_of X G z_list, PySem.W.mg_none_of X G z_len, PySem.W.mg_none_of X G z_int⟩, PySem.W.mg_of X G aN, PySem.W.mg_none_of X G z_range, PySem.W.mg_none_of X G z_tuple, PySem.W.mg_none_of X G z_zip⟩, PySem.W.mg_of X G aNa⟩
  have TP : TxtP mg pI pN pS pA pG := ⟨PySem.W.mg_none_of X G z_isinstance, PySem.W.mg_none_of X G z_int, PySem.W.mg_none_of X G z_bool, PySem.W.mg_none_of X G z_str, PySem.W.mg_none_of X G z_tuple, PySem.W.mg_none_of X G z_len, PySem.W.mg_none_of X G z_all, PySem.W.mg_none_of X G z_range, PySem.W.mg_none_of X G z_enumerate, ⟨_, PySem.W.mg_of X G cMOST_SETTINGS⟩, ⟨_, PySem.W.mg_of X G cMOST_VALUE⟩, ⟨_, PySem.W.mg_of X G cMOST_STANDINGS⟩, ⟨_, PySem.W.mg_of X G cLONGEST_NAME⟩, PySem.W.mg_of X G apI, PySem.W.mg_of X G apN, PySem.W.mg_of X G apS, PySem.W.mg_of X G apA, PySem.W.mg_of X G apG⟩
  have TR : TxtR mg pI pN pS pA pG fNu fAs fPl fMo fNP fNM pD aE aM := ⟨TP, PySem.W.mg_of X G aNu, PySem.W.mg_of X G aAs, PySem.W.mg_of X G aPl, PySem.W.mg_of X G aMo, PySem.W.mg_of X G aNP, PySem.W.mg_of X G aNM, PySem.W.mg_of X G apD, PySem.W.mg_of X G AE, PySem.W.mg_of X G AM, ⟨_, PySem.W.mg_of X G cMOST_PLACES⟩⟩
  have TX : XC K CI fEI "name" "LookupError.__new__" oT6 := ⟨nI8, oI8h, sI8, tI8, hI8, iI8, wI8, kI8⟩
  have X6h : C6 K C CM CI fKp := ⟨RC, MeM, mIM, mII, ⟨XFeM, NeM⟩, ⟨⟨gaI8, ggI8, xI8, hI8⟩, noI8⟩, MKp⟩
  have G6h : G6 mg fTo C CM CI := ⟨PySem.W.mg_of X G aTo, PySem.W.mg_of X G AR, PySem.W.mg_of X G AeM, PySem.W.mg_of X G AeI⟩
  have ICh : C8.InsC K C := ⟨RC.cl, iha, ihn, iht, ihm, ihe⟩
  have NKh : NotKit K C := fun T hT => by
    simp only [List.mem_cons, List.mem_nil_iff, or_false] at hT
    rcases hT with rfl | rfl | rfl | rfl | rfl | rfl | rfl
    · exact kitNoneType
    · exact kitbool
    · exact kitint
    · exact kitstr
    · exact kitlist
    · exact kittuple
    · exact kitdict
  have OCh : OwnC K C fE fL := ⟨IEq, isfEq, nER, obR, ILn, isfLn, fun T hT => by
    simp only [List.mem_cons, List.mem_nil_iff, or_false] at hT
    rcases hT with rfl | rfl | rfl | rfl | rfl | rfl | rfl
    · exact subNoneType
    · exact subbool
    · exact subint
    · exact substr
    · exact sublist
    · exact subtuple
    · exact subdict⟩
  exact ok_law T0 (PySem.W.mg_none_of X G z_min) (PySem.W.mg_none_of X G z_repr) (PySem.W.mg_none_of X G z_isinstance) TR WT G6h X6h ICh NKh OCh nP (PySem.W.mg_of X G aBg) (PySem.W.mg_of X G aSe) (PySem.W.mg_of X G aPc) (PySem.W.mg_of X G aMd) (PySem.W.mg_of X G aKR) (PySem.W.mg_of X G AeS) (PySem.W.mg_of X G AeP) MkC MWm ECeS ECeP ECeM TX xI8 yI8 FL hc (fun s v => .of_eq rfl) FKR hck bKR FBg bBg FN bN FNa bNa FSe bSe FPc bPc FMd bMd FTo bTo FR b3 vd3 b4 FKp FWm bWm FEq bEq FLn bLn FieS bieS FieP bieP FieM bieM FieI (fun s v u => .of_eq rfl) FpI bpI FpN bpN FpS bpS FpA bpA FpG bpG FpD bpD FNu bNu FAs bAs FPl bPl FMo bMo FNP bNP FNM bNM
end Ms
open PySem PySem.W PyProof.Rows
set_option maxRecDepth 100000 in
set_option maxHeartbeats 0 in
theorem PySem.Challenge.cw_midswitch_k06_requests_asked_holds : PySem.Challenge.rw_midswitch_k06_requests_asked.Holds := by
  w_on; o_law; k_head; (case hw => w_witness2)
  k_fill
  refine' Ms.walk_tableds (l := PySem.Challenge.rw_midswitch_k06_requests_asked) (ts := [(_, _), (_, _)]) rfl rfl (fun w h Y => PySem.W.km_in_of Y) (fun w h Y => Ms.forall_mem2 (PySem.W.km_tabs_of Y _ (List.mem_cons_self ..)) (PySem.W.km_tabs_of Y _ (List.mem_cons_of_mem _ (List.mem_cons_self ..)))) ?tabHd ?tabNo ?R
  case R =>
    intro w mg fa h KX G hmg
    refine' Ms.all_mk KX G hmg ?AeS ?XeS ?ReS ?SeS ?EeS ?TeS ?KeS ?IeS ?YeS ?NeS ?GeS ?HeS ?DeS ?MeS ?lieS ?dieS ?eieS ?AeP ?XeP ?ReP ?SeP ?EeP ?TeP ?KeP ?IeP ?YeP ?NeP ?GeP ?HeP ?DeP ?MeP ?lieP ?dieP ?eieP ?AeM ?XeM ?ReM ?SeM ?EeM ?TeM ?KeM ?IeM ?YeM ?NeM ?GeM ?HeM ?DeM ?MeM ?lieM ?dieM ?eieM ?AeI ?iI8 ?lieI ?dieI ?eieI ?nI8 ?oI8h ?sI8 ?tI8 ?hI8 ?wI8 ?kI8 ?gaI8 ?ggI8 ?xI8 ?yI8 ?noI8 ?mIM ?mII ?AR ?IR ?mkR ?fnR ?kpR ?pgR ?hdR ?poR ?saR ?n0R ?n1R ?n2R ?lR ?dR ?eR ?lT ?AE ?AM ?lE ?lM ?IKp ?lKp ?dKp ?eKp ?isfKp ?IWm ?lWm ?dWm ?eWm ?isfWm ?IEq ?lEq ?dEq ?eEq ?isfEq ?ILn ?lLn ?dLn ?eLn ?isfLn ?nER ?obR ?subNoneType ?subbool ?subint ?substr ?sublist ?subtuple ?subdict ?kitNoneType ?kitbool ?kitint ?kitstr ?kitlist ?kittuple ?kitdict ?iha ?ihn ?iht ?ihm ?ihe ?apI ?lpI ?dpI ?epI ?apN ?lpN ?dpN ?epN ?apS ?lpS ?dpS ?epS ?apD ?lpD ?dpD ?epD ?apA ?lpA ?dpA ?epA ?apG ?lpG ?dpG ?epG ?aNu ?lNu ?dNu ?eNu ?aAs ?lAs ?dAs ?eAs ?aPl ?lPl ?dPl ?ePl ?aMo ?lMo ?dMo ?eMo ?aNP ?lNP ?dNP ?eNP ?aNM ?lNM ?dNM ?eNM ?aBg ?lBg ?dBg ?eBg ?aN ?lN ?dN ?eN ?aNa ?lNa ?dNa ?eNa ?aSe ?lSe ?dSe ?eSe ?aPc ?lPc ?dPc ?ePc ?aMd ?lMd ?dMd ?eMd ?aTo ?lTo ?dTo ?eTo ?aKR ?lKR ?dKR ?eKR ?aL ?lL ?dL ?eL ?cMOST_SETTINGS ?cMOST_VALUE ?cMOST_STANDINGS ?cLONGEST_NAME ?cMOST_PLACES ?z_list ?z_len ?z_int ?z_range ?z_tuple ?z_zip ?z_isinstance ?z_str ?z_bool ?z_enumerate ?z_all ?z_repr ?z_min ?nP ?eCodeK ?eCode
    (case AeS => k_is)
    (case XeS => k_is)
    (case ReS => rfl)
    (case SeS => k_is)
    (case EeS => k_is)
    (case TeS => k_is)
    (case KeS => k_is)
    (case IeS => k_is)
    (case YeS => k_is)
    (case NeS => k_is)
    (case GeS => k_is)
    (case HeS => k_is)
    (case DeS => k_is)
    (case MeS => kernel_rfl)
    (case lieS => k_is)
    (case dieS => k_is)
    (case eieS => k_is)
    (case AeP => k_is)
    (case XeP => k_is)
    (case ReP => rfl)
    (case SeP => k_is)
    (case EeP => k_is)
    (case TeP => k_is)
    (case KeP => k_is)
    (case IeP => k_is)
    (case YeP => k_is)
    (case NeP => k_is)
    (case GeP => k_is)
    (case HeP => k_is)
    (case DeP => k_is)
    (case MeP => kernel_rfl)
    (case lieP => k_is)
    (case dieP => k_is)
    (case eieP => k_is)
    (case AeM => k_is)
    (case XeM => k_is)
    (case ReM => rfl)
    (case SeM => k_is)
    (case EeM => k_is)
    (case TeM => k_is)
    (case KeM => k_is)
    (case IeM => k_is)
    (case YeM => k_is)
    (case NeM => k_is)
    (case GeM => k_is)
    (case HeM => k_is)
    (case DeM => k_is)
    (case MeM => kernel_rfl)
    (case lieM => k_is)
    (case dieM => k_is)
    (case eieM => k_is)
    (case AeI => k_is)
    (case iI8 => k_is)
    (case lieI => k_is)
    (case dieI => k_is)
    (case eieI => k_is)
    (case nI8 => kx_is)
    (case oI8h => kx_is)
    (case sI8 => k_is)
    (case tI8 => k_is)
    (case hI8 => k_is)
    (case wI8 => k_is)
    (case kI8 => k_is)
    (case gaI8 => k_is)
    (case ggI8 => k_is)
    (case xI8 => k_is)
    (case yI8 => k_is)
    (case noI8 => k_is)
    (case mIM => kernel_rfl)
    (case mII => kernel_rfl)
    (case AR => k_is)
    (case IR => k_is)
    (case mkR => k_is)
    (case fnR => k_is)
    (case kpR => k_is)
    (case pgR => k_is)
    (case hdR => k_is)
    (case poR => k_is)
    (case saR => k_is)
    (case n0R => k_is)
    (case n1R => k_is)
    (case n2R => k_is)
    (case lR => k_is)
    (case dR => k_is)
    (case eR => k_is)
    (case lT => k_is)
    (case AE => k_is)
    (case AM => k_is)
    (case lE => k_is)
    (case lM => k_is)
    (case IKp => k_is)
    (case lKp => k_is)
    (case dKp => k_is)
    (case eKp => k_is)
    (case isfKp => k_is)
    (case IWm => k_is)
    (case lWm => k_is)
    (case dWm => k_is)
    (case eWm => k_is)
    (case isfWm => k_is)
    (case IEq => k_is)
    (case lEq => k_is)
    (case dEq => k_is)
    (case eEq => k_is)
    (case isfEq => k_is)
    (case ILn => k_is)
    (case lLn => k_is)
    (case dLn => k_is)
    (case eLn => k_is)
    (case isfLn => k_is)
    (case nER => k_is)
    (case obR => k_is)
    (case subNoneType => k_is)
    (case subbool => k_is)
    (case subint => k_is)
    (case substr => k_is)
    (case sublist => k_is)
    (case subtuple => k_is)
    (case subdict => k_is)
    (case kitNoneType => kernel_rfl)
    (case kitbool => kernel_rfl)
    (case kitint => kernel_rfl)
    (case kitstr => kernel_rfl)
    (case kitlist => kernel_rfl)
    (case kittuple => kernel_rfl)
    (case kitdict => kernel_rfl)
    (case iha => k_is)
    (case ihn => k_is)
    (case iht => k_is)
    (case ihm => k_is)
    (case ihe => kernel_rfl)
    (case apI => k_is)
    (case lpI => k_is)
    (case dpI => k_is)
    (case epI => k_is)
    (case apN => k_is)
    (case lpN => k_is)
    (case dpN => k_is)
    (case epN => k_is)
    (case apS => k_is)
    (case lpS => k_is)
    (case dpS => k_is)
    (case epS => k_is)
    (case apD => k_is)
    (case lpD => k_is)
    (case dpD => k_is)
    (case epD => k_is)
    (case apA => k_is)
    (case lpA => k_is)
    (case dpA => k_is)
    (case epA => k_is)
    (case apG => k_is)
    (case lpG => k_is)
    (case dpG => k_is)
    (case epG => k_is)
    (case aNu => k_is)
    (case lNu => k_is)
    (case dNu => k_is)
    (case eNu => k_is)
    (case aAs => k_is)
    (case lAs => k_is)
    (case dAs => k_is)
    (case eAs => k_is)
    (case aPl => k_is)
    (case lPl => k_is)
    (case dPl => k_is)
    (case ePl => k_is)
    (case aMo => k_is)
    (case lMo => k_is)
    (case dMo => k_is)
    (case eMo => k_is)
    (case aNP => k_is)
    (case lNP => k_is)
    (case dNP => k_is)
    (case eNP => k_is)
    (case aNM => k_is)
    (case lNM => k_is)
    (case dNM => k_is)
    (case eNM => k_is)
    (case aBg => k_is)
    (case lBg => k_is)
    (case dBg => k_is)
    (case eBg => k_is)
    (case aN => k_is)
    (case lN => k_is)
    (case dN => k_is)
    (case eN => k_is)
    (case aNa => k_is)
    (case lNa => k_is)
    (case dNa => k_is)
    (case eNa => k_is)
    (case aSe => k_is)
    (case lSe => k_is)
    (case dSe => k_is)
    (case eSe => k_is)
    (case aPc => k_is)
    (case lPc => k_is)
    (case dPc => k_is)
    (case ePc => k_is)
    (case aMd => k_is)
    (case lMd => k_is)
    (case dMd => k_is)
    (case eMd => k_is)
    (case aTo => k_is)
    (case lTo => k_is)
    (case dTo => k_is)
    (case eTo => k_is)
    (case aKR => k_is)
    (case lKR => k_is)
    (case dKR => k_is)
    (case eKR => k_is)
    (case aL => k_is)
    (case lL => k_is)
    (case dL => k_is)
    (case eL => k_is)
    (case cMOST_SETTINGS => k_is)
    (case cMOST_VALUE => k_is)
    (case cMOST_STANDINGS => k_is)
    (case cLONGEST_NAME => k_is)
    (case cMOST_PLACES => k_is)
    (case z_list => k_is)
    (case z_len => k_is)
    (case z_int => k_is)
    (case z_range => k_is)
    (case z_tuple => k_is)
    (case z_zip => k_is)
    (case z_isinstance => k_is)
    (case z_str => k_is)
    (case z_bool => k_is)
    (case z_enumerate => k_is)
    (case z_all => k_is)
    (case z_repr => k_is)
    (case z_min => k_is)
    (case nP => decide)
    (case eCodeK => rfl)
    (case eCode => rfl)
  case tabHd => intro w; exact Ms.forall_mem2 (by kernel_rfl) (by kernel_rfl)
  case tabNo => intro w; exact Ms.forall_mem2 (by kernel_rfl) (by kernel_rfl)
