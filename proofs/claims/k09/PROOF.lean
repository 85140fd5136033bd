import PyProof.Rows.All
import Wide.All
import OpenK.AllK
import Wide.FinOn
import PyProof.EqAt
import PyProof.EqKinds
import PyProof.TupleCall
import HandS.ForExc
import HandS.ForMost
import HandS.Dict
import HandS.Comp
import HandS.IsInst
import HandS.StrMore
import PyProof.StrBlock2
import HandS.Zip
import HandS.Walk
import KE.GoesNew
import KE.GoesMore
import HandS.TupAny
import HandS.ExcInit
import HandS.ExcField
import HandS.Star
import HandS.Lambda
import HandS.EndTab
import KE.KNest
import KE.KNestM
import HandS.TupMul
import KE.KIntText
import HandS.Style
import HandS.MakeKw
import HandS.DictComp
import HandS.ExcOwn
import PyProof.P3Eq
import PySem.Challenge.RW_midswitch_k09_whole_plain_rows
set_option Elab.async false
set_option linter.all false
set_option maxRecDepth 100000
set_option maxHeartbeats 4000000
namespace Ms
open PySem PySem.Spec PyProof.Rows L2
section
variable {P : Program} {w : World} {K : PySem.W.Frag} {mg : Str → Option Value} {base : Heap}
theorem deeper_guards {A : Around} {env : Env} (h : A.guards = some []) : (A.deeper env).guards = some [] := h
/-- a def is run where it is known that no guard stands (repr asks for that) -/
theorem run_known {x qual : Str} {st : Stmt} {f : Addr} {fd : FuncData} {N ps : List Str} {k : Nat} (F : Fun K x qual st f fd) (S : FnScope N ps (defScope st))
    {A : Around} {outer : List Env} {s : Shared} {H : Hp} {args : Args} {us : List Value} {vs : List V} {Q : VK} {E : XK}
    (gA : A.guards = some []) (rm : Room (k + 1) A) (st0 : Env0 P w K mg base A outer s H) (bd : BindsTo s fd args (ps.zip us)) (rel : Vals vs us) (ln : vs.length = ps.length)
    (walk : ∀ cdv : Value, Room k (A.deeper (envOfC qual (defScope st) s.heap.objs.size f cdv)) →
      ∃ t, PSs (cxOf CX0 P w K mg base N qual (defScope st) f cdv A outer s H E).nox (defBody st) t ∧ t { nx := fun _ H' => Q .non H', rt := Q } (start N vs) H) :
    codeAny (model P w) A (.call (.ref f) args) (CR CX0 outer P w H s Q E) s := by
  obtain ⟨oc, od, kV, doc, pm, an, cdv, ct, osl, rfl, atK, code⟩ := F.ex
  have inH : K.In s.heap := st0.mod.kin.keeps fun b o q => (st0.bs b o q).1
  have noLim : s.heap.NoLimit := st0.mod.nolimit.keeps fun b o q => (st0.bs b o q).1
  have kinds : ∀ y ∈ ps.zip us, (defScope st).names.lookup y.1 = some .local ∨ ((defScope st).names.lookup y.1 = some .cell ∧ ((cellsFrom (s.heap.objs.size + 1) (defScope st).names []).lookup y.1).isSome = true) := by
    rintro ⟨n, v⟩ hy
    rcases S.par n (List.of_mem_zip hy).1 with z | z
    · exact Or.inl z
    · exact Or.inr ⟨z, PySem.W.cellsFrom_some _ _ _ (.inl z)⟩
  refine codeAny_call_function rm.depth (inH _ _ atK) rfl S.co S.gen rfl (PySem.W.codeRec_of inH code) (bd _ _ _ _ ?_)
  refine wpAny_newFunctionEnv_cells S.kind kinds fun env eq s1 inC => ?_
  subst eq
  refine And.intro (noLim.keeps inC.toInCall.keep) (codeAny_func ?_)
  obtain ⟨t, derives, reads⟩ := walk cdv (rm.deeper _)
  have I := inv_start (CX := CX0) (P := P) (mg := mg) (base := base) (E := E) S rm.hd st0 ln rel inC
  refine wpAny_mono (derives.nox.run [] s1 (start N vs) H _ I reads) (fun fl s' hs => ?_) fun e s' hs => hs
  cases fl with
  | ret u =>
    obtain ⟨v, σ', H', J, rv, q⟩ := hs
    exact ⟨v, H', J.os, J.bare, J.base, J.hok, rv, q⟩
  | next =>
    obtain ⟨σ', H', J, q⟩ := hs
    exact ⟨V.non, H', J.os, J.bare, J.base, J.hok, rfl, q⟩
  | brk => obtain ⟨_, _, _, q⟩ := hs; exact q.elim
  | cont => obtain ⟨_, _, _, q⟩ := hs; exact q.elim

/-- what a law's own def has to show: at a list of at most 63 ints it hands back True, where no guard stands -/
def LawRun (P : Program) (w : World) (K : PySem.W.Frag) (mg : Str → Option Value) (fa : Addr) : Prop :=
  ∀ (base : Heap) (H : Hp) (s : Shared) (a : Addr) (ns : List Int), K.In base → base.Ns mainGlobals mg → SqL K H a (ns.map V.int) → ns.length ≤ 63 → Env0 P w K mg base callerA [] s H →
    codeAny (model P w) callerA (.call (.ref fa) ⟨[.ref a], []⟩) (CR CX0 [] P w H s (fun v _ => v = .bl true) fun _ _ _ => False) s
/-- the script stands alone in the heap that is told: in H only at a, if at all -/
structure Alone (H : Hp) (h : Heap) (K : PySem.W.Frag) (a : Addr) : Prop where
  only : Only H
  here : ∀ b, H b ≠ none → b = a
  off : H a ≠ none → K.lookup a = none
theorem Alone.none {H : Hp} {h : Heap} {K : PySem.W.Frag} {a b : Addr} {o p : Obj} (x : Alone H h K a) (e : h.get? b = some o) (ea : h.get? a = some p) (d : o.data ≠ p.data) : H b = none := by
  cases q : H b with
  | none => rfl
  | some u =>
    have z := x.here b (by rw [q]; exact fun z => nomatch z)
    subst z
    rw [ea] at e
    cases e
    exact absurd rfl d
theorem Alone.ns {H : Hp} {h : Heap} {K : PySem.W.Frag} {a b : Addr} {vs : Array Value} {m : Str → Option Value} (x : Alone H h K a) (ea : h.get? a = some { cls := .type "list", data := .seq vs }) (n : h.Ns b m) : (hidT h H).Ns b m := by
  obtain ⟨o, es, ep, e, d, r⟩ := n
  refine ⟨o, es, ep, hidT_get e (x.none e ea ?_), d, r⟩
  rw [d]
  intro z
  cases z
theorem Alone.kin {H : Hp} {h : Heap} {K : PySem.W.Frag} {a : Addr} (x : Alone H h K a) (X : K.In h) : K.In (hidT h H) := by
  intro b o e
  refine hidT_get (X b o e) ?_
  cases q : H b with
  | none => rfl
  | some u =>
    have z := x.here b (by rw [q]; exact fun z => nomatch z)
    subst z
    rw [x.off (by rw [q]; exact fun z => nomatch z)] at e
    cases e
theorem law_ends {fa a : Addr} {s : Shared} {vs : List Value} {ns : List Int} {mb : Str → Option Value} {H : Hp} (R : LawRun P w K mg fa) (al : Alone H s.heap K a)
    (X : K.In s.heap) (g : s.heap.Ns mainGlobals mg) (b : s.heap.Ns builtinsNs mb) (bb : ∀ x : Str, x ≠ "__name__" → mb x = bootBuiltins x) (lim : s.heap.NoLimit) (gs : s.gens = #[])
    (ea : s.heap.get? a = some { cls := .type "list", data := .seq vs.toArray }) (hS : SqL K H a (ns.map V.int)) (hl : ns.length ≤ 63) (ok : HOk P w H s.heap) :
    codeAny (model P w) callerA (.call (.ref fa) ⟨[.ref a], []⟩) (fun r s' => r = .ok (.ret (.bool true)) ∧ OldK s.heap s'.heap ∧ s'.os = s.os ∧ AllBare s'.gens) s := by
  have M : Mod K mg (hidT s.heap H) := by
    refine ⟨al.kin X, al.ns ea g, ⟨mb, al.ns ea b, bb⟩, ?_⟩
    obtain ⟨mc, l1, l2⟩ := lim
    exact ⟨mc, al.ns ea l1, l2⟩
  have st0 : Env0 P w K mg (hidT s.heap H) callerA [] s H := by
    refine ⟨rfl, M, fun b o e => of_hidT e, Nat.le_of_eq (hidT_size _ _), trivial, fun b hb => ?_, ok, AllBare.of_eq gs⟩
    cases (show b ∈ ([] : List Addr) from hb)
  refine codeAny_mono (R _ H s a ns M.kin M.glob hS hl st0) fun r s' q => ?_
  match r, q with
  | .error e, q => exact False.elim q
  | .ok (.next), q => exact False.elim q
  | .ok (.brk), q => exact False.elim q
  | .ok (.cont), q => exact False.elim q
  | .ok (.ret u), q =>
    obtain ⟨v, H', eos, bare, un, ok', rv, qv⟩ := q
    have qv' : v = .bl true := qv
    subst qv'
    obtain rfl : u = Value.bool true := rv
    refine And.intro rfl (And.intro (OldK.of_keep fun c o e => ?_) (And.intro eos bare))
    rcases al.only c with z | ⟨ob, xs, z⟩
    · exact un.keep c o e z (fun y => by cases (show c ∈ ([] : List Addr) from y)) (by simp)
    · have h1 := (ok c _ z).1
      have h2 := (ok' c _ (un.frzs c ob _ z)).1
      rw [e] at h1
      cases h1
      exact h2
theorem law_known {fa a : Addr} {s : Shared} {vs : List Value} {ns : List Int} {mb : Str → Option Value} (R : LawRun P w K mg fa)
    (X : K.In s.heap) (g : s.heap.Ns mainGlobals mg) (b : s.heap.Ns builtinsNs mb) (bb : ∀ x : Str, x ≠ "__name__" → mb x = bootBuiltins x) (lim : s.heap.NoLimit) (gs : s.gens = #[])
    (ea : s.heap.get? a = some { cls := .type "list", data := .seq vs.toArray }) (hi : IntsAre vs ns) (hl : ns.length ≤ 63) :
    codeAny (model P w) callerA (.call (.ref fa) ⟨[.ref a], []⟩) (fun r s' => r = .ok (.ret (.bool true)) ∧ OldK s.heap s'.heap ∧ s'.os = s.os ∧ AllBare s'.gens) s := by
  have rel := vals_ints hi
  have ll := hi.length
  have hl2 : ns.length ≤ sizeLine := Nat.le_trans hl (by decide)
  cases lk : K.lookup a with
  | some o =>
    have e := X a o lk
    rw [ea] at e
    cases e
    refine law_ends (H := fun _ => Option.none) R ⟨fun _ => .inl rfl, fun _ z => absurd rfl z, fun z => absurd rfl z⟩ X g b bb lim gs ea ?_ hl (fun _ _ z => by cases (show (Option.none : Option HO) = some _ from z))
    refine .inr ⟨_, vs.toArray, _, lk, rfl, rfl, rfl, ?_, by simpa using rel⟩
    rw [List.size_toArray, ll]
    exact hl2
  | none =>
    let o0 : HO := .frz { cls := .type "list", data := .seq vs.toArray } (.lst (ns.map V.int))
    have at0 : ∀ c u, (fun c => if c = a then some o0 else Option.none) c = some u → c = a ∧ u = o0 := fun c u z => by
      by_cases hc : c = a
      · have z' := (if_pos hc).symm.trans z
        exact ⟨hc, (Option.some.inj z').symm⟩
      · have z' := (if_neg hc).symm.trans z
        cases z'
    refine law_ends (H := fun c => if c = a then some o0 else Option.none) R ⟨fun c => ?_, fun c z => ?_, fun _ => lk⟩ X g b bb lim gs ea (.inl (.inr ⟨_, if_pos rfl⟩)) hl (fun c u z => ?_)
    · by_cases hc : c = a
      · exact .inr ⟨_, _, if_pos hc⟩
      · exact .inl (if_neg hc)
    · by_cases hc : c = a
      · exact hc
      · exact absurd (if_neg hc) z
    · obtain ⟨hc, hu⟩ := at0 c u z
      subst hc
      subst hu
      exact ⟨ea, by rw [List.length_map]; exact hl2, vs, _, rel, ea⟩
/-- the end of a law's row -/
theorem walk_known {l : PySem.W.OpenLaw} {q : Program} {loose : List Str} {XP : (Str → Option Value) → Heap → Prop} {YP : World → Heap → Prop} {d : DefRec} {K : Params → PySem.W.Frag} (hn : l.most = some 63) (hdf : d.params.defaults = [])
    (hY : ∀ (w : World) (h : Heap), YP w h → (K w.params).In h)
    (R : ∀ (w : World) (mg : Str → Option Value) (fa : Addr) (h : Heap), (K w.params).In h → h.Ns mainGlobals mg → mg d.name = some (.ref fa) → LawRun l.prog w (K w.params) mg fa) :
    PySem.W.WalkO q loose XP YP l.row.toRowW d [] (fun f vs => PySem.call f vs) := by
  refine Att.attach_call hn hdf fun w s₀ s₁ mg mb fa o pm cd doc a vs ns G Y ho hd hcd hmg hobj hints hlen hg => ?_
  have KX := hY w _ Y
  exact law_known (R w mg fa _ KX G.T.g hmg) KX G.T.g G.T.b G.T.builtins G.T.nolimit hg hobj hints hlen
end

/-! ### data, and its repr -/
mutual
/-- v is the data d; its lists and dicts are none of the machine's two -/
inductive Dq (K : PySem.W.Frag) (H : Hp) (m l : Addr) : V → PyData → Prop
  | non : Dq K H m l .non .none
  | bl (b : Bool) : Dq K H m l (.bl b) (.bool b)
  | int (i : Int) : Dq K H m l (.int i) (.int i)
  | str (x : Str) : Dq K H m l (.str x) (.str x)
  | lst {a : Addr} {xs : List V} {ds : List PyData} : H a = some (.lst xs) → a ≠ m → a ≠ l → DqAll K H m l xs ds → Dq K H m l (.ref a) (.list ds)
  | tup {a : Addr} {xs : List V} {ds : List PyData} : SqT K H a xs → DqAll K H m l xs ds → Dq K H m l (.ref a) (.tuple ds)
  | dct {a : Addr} : H a = some (.dK []) → a ≠ m → a ≠ l → Dq K H m l (.ref a) (.dict [])
inductive DqAll (K : PySem.W.Frag) (H : Hp) (m l : Addr) : List V → List PyData → Prop
  | nil : DqAll K H m l [] []
  | cons {v : V} {vs : List V} {d : PyData} {ds : List PyData} : Dq K H m l v d → DqAll K H m l vs ds → DqAll K H m l (v :: vs) (d :: ds)
end
/-- from one heap to another one: what is not the machine's stands, and is not the machine's then -/
structure Kept (m l l' : Addr) (H H' : Hp) : Prop where
  keep : ∀ b o, H b = some o → b ≠ m → b ≠ l → H' b = some o
  ne : ∀ b o, H b = some o → b ≠ l → b ≠ l'
  am : ∃ z, H m = some (.dK z)
  al : ∃ z, H l = some (.lst z)
theorem Kept.tup {K : PySem.W.Frag} {m l l' a : Addr} {H H' : Hp} {xs : List V} (k : Kept m l l' H H') (h : SqT K H a xs) : SqT K H' a xs := by
  obtain ⟨z1, e1⟩ := k.am
  obtain ⟨z2, e2⟩ := k.al
  rcases h with (h | ⟨o, h⟩) | h
  · exact .inl (.inl (k.keep a _ h (ne_of h e1 (by intro z; cases z)) (ne_of h e2 (by intro z; cases z))))
  · exact .inl (.inr ⟨o, k.keep a _ h (ne_of h e1 (by intro z; cases z)) (ne_of h e2 (by intro z; cases z))⟩)
  · exact .inr h
mutual
theorem Dq.step {K : PySem.W.Frag} {m l l' : Addr} {H H' : Hp} (k : Kept m l l' H H') : ∀ (d : PyData) (v : V), Dq K H m l v d → Dq K H' m l' v d
  | .none, _, h => by cases h; exact .non
  | .bool b, _, h => by cases h; exact .bl b
  | .int i, _, h => by cases h; exact .int i
  | .str x, _, h => by cases h; exact .str x
  | .list ds, _, h => by
    cases h with
    | lst e n1 n2 t => exact .lst (k.keep _ _ e n1 n2) n1 (k.ne _ _ e n2) (DqAll.step k ds _ t)
  | .tuple ds, _, h => by
    cases h with
    | tup e t => exact .tup (k.tup e) (DqAll.step k ds _ t)
  | .dict _, _, h => by
    cases h with
    | dct e n1 n2 => exact .dct (k.keep _ _ e n1 n2) n1 (k.ne _ _ e n2)
theorem DqAll.step {K : PySem.W.Frag} {m l l' : Addr} {H H' : Hp} (k : Kept m l l' H H') : ∀ (ds : List PyData) (vs : List V), DqAll K H m l vs ds → DqAll K H' m l' vs ds
  | [], _, h => by cases h; exact .nil
  | d :: ds, _, h => by
    cases h with
    | cons h1 h2 => exact .cons (Dq.step k d _ h1) (DqAll.step k ds _ h2)
end
section
variable {X : Cx} {pins : List (Addr × Obj)} {σ : L2.St} {H : Hp} {s : Shared} {m l : Addr}
mutual
theorem Dq.reads (I : Inv X pins σ H s) (hs : H sysModules = none) : ∀ (d : PyData) (v : V) (u : Value), Dq X.K H m l v d → RelV v u → ∃ as, Reads s.heap u d as ∧ sysModules ∉ as
  | .none, _, _, h, r => by cases h; cases r; exact ⟨_, .none, by simp⟩
  | .bool b, _, _, h, r => by cases h; cases r; exact ⟨_, .bool b, by simp⟩
  | .int i, _, _, h, r => by cases h; obtain ⟨t, rfl⟩ := r; exact ⟨_, .int i t, by simp⟩
  | .str x, _, _, h, r => by cases h; obtain ⟨t, rfl⟩ := r; exact ⟨_, .str x t, by simp⟩
  | .list ds, _, _, h, r => by
    cases h with
    | lst e n1 n2 t =>
      cases r
      obtain ⟨its, rv, ⟨o, n, ho, hc, _, hd⟩, _⟩ := I.list (SqL.of e)
      obtain ⟨as, q1, q2⟩ := DqAll.reads I hs ds _ its t rv
      refine ⟨_, Reads.list ho hc hd q1, fun z => ?_⟩
      rcases List.mem_cons.mp z with z | z
      · rw [← z, hs] at e; cases e
      · exact q2 z
  | .tuple ds, _, _, h, r => by
    cases h with
    | tup e t =>
      cases r
      obtain ⟨its, rv, ⟨o, ho, hc, n, hd⟩, _⟩ := I.tuple e
      obtain ⟨as, q1, q2⟩ := DqAll.reads I hs ds _ its t rv
      exact ⟨_, Reads.tuple ho hc hd q1, q2⟩
  | .dict _, _, _, h, r => by
    cases h with
    | dct e n1 n2 =>
      cases r
      obtain ⟨z, hd, vs, rel, dd⟩ := dk_of I.hok e
      cases rel
      obtain ⟨o, es, ep, ho, hc, hdat, hlay⟩ := id dd
      have e0 : es.toList = [] := by
        have p := hlay.2.1
        cases q : es.toList with
        | nil => rfl
        | cons z zs => rw [q] at p; cases p
      refine ⟨_, Reads.dict (as := []) (bs := []) ho hc.1 hdat ?_ ?_, ?_⟩
      · rw [e0]; exact .nil
      · rw [e0]; exact .nil
      · intro z
        have z2 := List.mem_singleton.mp (show sysModules ∈ [_] from z)
        rw [← z2, hs] at e
        cases e
theorem DqAll.reads (I : Inv X pins σ H s) (hs : H sysModules = none) : ∀ (ds : List PyData) (vs : List V) (us : List Value), DqAll X.K H m l vs ds → Vals vs us → ∃ as, ReadsAll s.heap us ds as ∧ sysModules ∉ as
  | [], _, _, h, r => by cases h; cases r; exact ⟨_, .nil, by simp⟩
  | d :: ds, _, _, h, r => by
    cases h with
    | cons h1 h2 =>
      cases r with
      | cons r1 r2 =>
        obtain ⟨as, q1, p1⟩ := Dq.reads I hs d _ _ h1 r1
        obtain ⟨bs, q2, p2⟩ := DqAll.reads I hs ds _ _ h2 r2
        exact ⟨_, .cons q1 q2, fun z => (List.mem_append.mp z).elim p1 p2⟩
end
theorem no_sys {o : Obj} (hk : X.K.lookup sysModules = some o) (I : Inv X pins σ H s) : H sysModules = none := (I.bs _ _ (I.ok.mod.kin _ _ hk)).2
end
/-- repr(x) -/
theorem call_repr {X : Cx} {o : Obj} (hg : X.A.guards = some []) (hu : X.A.units + 64 < cLine) (hk : X.K.lookup sysModules = some o) :
    CallR X (.builtin "repr") (fun xs H Q => ∃ x d m l, xs = [x] ∧ Dq X.K H m l x d ∧ d.showable = true ∧ d.depth ≤ 60 ∧ d.shown.length ≤ sizeLine ∧ Q (.str d.shown) H) := by
  intro pins s σ H xs us Q I r h
  obtain ⟨x, d, m, l, rfl, hd, hs, hdep, hlen, q⟩ := h
  obtain ⟨u, rfl, rx⟩ := vals1 r
  obtain ⟨as, rd, na⟩ := Dq.reads I (no_sys hk I) d x u hd rx
  cases rd with
  | none => exact PySem.P.repr_of_none ⟨V.str _, H, I.tok _, ⟨_, rfl⟩, by simpa only [PyData.shown] using q⟩
  | bool b => exact PySem.P.repr_of_bool ⟨V.str _, H, I.tok _, ⟨_, rfl⟩, by simpa only [PyData.shown] using q⟩
  | int i t => exact PySem.P.repr_of_int (by simpa [PyData.showable] using hs) ⟨V.str _, H, I.tok _, ⟨_, rfl⟩, by simpa only [PyData.shown] using q⟩
  | str y t => exact PySem.P.repr_of_str ⟨V.str _, H, I.tok _, ⟨_, rfl⟩, by simpa only [PyData.shown] using q⟩ (by simpa only [PyData.shown] using hlen)
  | list h1 h2 h3 h4 => exact repr_of_reads' (.list h1 h2 h3 h4) hs (fun _ => na) hg (by omega) (fun _ _ e => e) (fun h' u' tk k => ⟨V.str _, H, I.kept k, ⟨_, rfl⟩, q⟩) hlen
  | tuple h1 h2 h3 h4 => exact repr_of_reads' (.tuple h1 h2 h3 h4) hs (fun _ => na) hg (by omega) (fun _ _ e => e) (fun h' u' tk k => ⟨V.str _, H, I.kept k, ⟨_, rfl⟩, q⟩) hlen
  | dict h1 h2 h3 h4 h5 => exact repr_of_reads' (.dict h1 h2 h3 h4 h5) hs (fun _ => na) hg (by omega) (fun _ _ e => e) (fun h' u' tk k => ⟨V.str _, H, I.kept k, ⟨_, rfl⟩, q⟩) hlen

/-! ### the same, of data that is a dict or bears none -/
def plainD : PyData → Bool
  | .dict [] => true
  | d => !d.hasDict
section
variable {X : Cx} {pins : List (Addr × Obj)} {σ : L2.St} {H : Hp} {s : Shared} {m l : Addr}
mutual
theorem Dq.reads0 (I : Inv X pins σ H s) : ∀ (d : PyData) (v : V) (u : Value), Dq X.K H m l v d → RelV v u → ∃ as, Reads s.heap u d as ∧ (d = .dict [] → sysModules ∉ as)
  | .none, _, _, h, r => by cases h; cases r; exact ⟨_, .none, by simp⟩
  | .bool b, _, _, h, r => by cases h; cases r; exact ⟨_, .bool b, by simp⟩
  | .int i, _, _, h, r => by cases h; obtain ⟨t, rfl⟩ := r; exact ⟨_, .int i t, by simp⟩
  | .str x, _, _, h, r => by cases h; obtain ⟨t, rfl⟩ := r; exact ⟨_, .str x t, by simp⟩
  | .list ds, _, _, h, r => by
    cases h with
    | lst e n1 n2 t =>
      cases r
      obtain ⟨its, rv, ⟨o, n, ho, hc, _, hd⟩, _⟩ := I.list (SqL.of e)
      obtain ⟨as, q1⟩ := DqAll.reads0 I ds _ its t rv
      exact ⟨_, Reads.list ho hc hd q1, fun z => nomatch z⟩
  | .tuple ds, _, _, h, r => by
    cases h with
    | tup e t =>
      cases r
      obtain ⟨its, rv, ⟨o, ho, hc, n, hd⟩, _⟩ := I.tuple e
      obtain ⟨as, q1⟩ := DqAll.reads0 I ds _ its t rv
      exact ⟨_, Reads.tuple ho hc hd q1, fun z => nomatch z⟩
  | .dict _, _, _, h, r => by
    cases h with
    | dct e n1 n2 =>
      cases r
      obtain ⟨z, hd, vs, rel, dd⟩ := dk_of I.hok e
      cases rel
      obtain ⟨o, es, ep, ho, hc, hdat, hlay⟩ := id dd
      have e0 : es.toList = [] := by
        have p := hlay.2.1
        cases q : es.toList with
        | nil => rfl
        | cons z zs => rw [q] at p; cases p
      refine ⟨_, Reads.dict (as := []) (bs := []) ho hc.1 hdat ?_ ?_, fun _ z => ?_⟩
      · rw [e0]; exact .nil
      · rw [e0]; exact .nil
      · have z2 := List.mem_singleton.mp (show sysModules ∈ [_] from z)
        rw [← z2] at hd
        exact absurd hd (by decide)
theorem DqAll.reads0 (I : Inv X pins σ H s) : ∀ (ds : List PyData) (vs : List V) (us : List Value), DqAll X.K H m l vs ds → Vals vs us → ∃ as, ReadsAll s.heap us ds as
  | [], _, _, h, r => by cases h; cases r; exact ⟨_, .nil⟩
  | d :: ds, _, _, h, r => by
    cases h with
    | cons h1 h2 =>
      cases r with
      | cons r1 r2 =>
        obtain ⟨as, q1, p1⟩ := Dq.reads0 I d _ _ h1 r1
        obtain ⟨bs, q2⟩ := DqAll.reads0 I ds _ _ h2 r2
        exact ⟨_, .cons q1 q2⟩
end
end
theorem plain_off {d : PyData} {as : List Addr} (p : plainD d = true) (h : d = .dict [] → sysModules ∉ as) : d.hasDict = true → sysModules ∉ as := fun z => by
  cases d with
  | dict kvs =>
    cases kvs with
    | nil => exact h rfl
    | cons a b =>
      have p' : (!(PyData.dict (a :: b)).hasDict) = true := p
      rw [z] at p'
      cases p'
  | _ =>
    have p' := p
    simp only [plainD, Bool.not_eq_true'] at p'
    rw [z] at p'
    cases p'
theorem call_repr0 {X : Cx} (hg : X.A.guards = some []) (hu : X.A.units + 64 < cLine) :
    CallR X (.builtin "repr") (fun xs H Q => ∃ x d m l, xs = [x] ∧ Dq X.K H m l x d ∧ plainD d = true ∧ d.showable = true ∧ d.depth ≤ 60 ∧ d.shown.length ≤ sizeLine ∧ Q (.str d.shown) H) := by
  intro pins s σ H xs us Q I r h
  obtain ⟨x, d, m, l, rfl, hd, hp, hs, hdep, hlen, q⟩ := h
  obtain ⟨u, rfl, rx⟩ := vals1 r
  obtain ⟨as, rd, na0⟩ := Dq.reads0 I d x u hd rx
  have na := plain_off hp na0
  cases rd with
  | none => exact PySem.P.repr_of_none ⟨V.str _, H, I.tok _, ⟨_, rfl⟩, by simpa only [PyData.shown] using q⟩
  | bool b => exact PySem.P.repr_of_bool ⟨V.str _, H, I.tok _, ⟨_, rfl⟩, by simpa only [PyData.shown] using q⟩
  | int i t => exact PySem.P.repr_of_int (by simpa [PyData.showable] using hs) ⟨V.str _, H, I.tok _, ⟨_, rfl⟩, by simpa only [PyData.shown] using q⟩
  | str y t => exact PySem.P.repr_of_str ⟨V.str _, H, I.tok _, ⟨_, rfl⟩, by simpa only [PyData.shown] using q⟩ (by simpa only [PyData.shown] using hlen)
  | list h1 h2 h3 h4 => exact repr_of_reads' (.list h1 h2 h3 h4) hs na hg (by omega) (fun _ _ e => e) (fun h' u' tk k => ⟨V.str _, H, I.kept k, ⟨_, rfl⟩, q⟩) hlen
  | tuple h1 h2 h3 h4 => exact repr_of_reads' (.tuple h1 h2 h3 h4) hs na hg (by omega) (fun _ _ e => e) (fun h' u' tk k => ⟨V.str _, H, I.kept k, ⟨_, rfl⟩, q⟩) hlen
  | dict h1 h2 h3 h4 h5 => exact repr_of_reads' (.dict h1 h2 h3 h4 h5) hs na hg (by omega) (fun _ _ e => e) (fun h' u' tk k => ⟨V.str _, H, I.kept k, ⟨_, rfl⟩, q⟩) hlen
end Ms
namespace Ms
open PySem PySem.Spec PyProof.Rows L2
/-! ### repr of any such data: no dict of it is the interpreter's own, and that is all that is asked -/
section
variable {X : Cx} {pins : List (Addr × Obj)} {σ : L2.St} {H : Hp} {s : Shared} {m l : Addr}
mutual
theorem Dq.shows (I : Inv X pins σ H s) : ∀ (d : PyData) (v : V) (u : Value), Dq X.K H m l v d → RelV v u → d.showable = true → d.shown.length ≤ sizeLine →
    ∃ as bs, Reads s.heap u d as ∧ ReadAtMost s.heap d.depth bs ∧ ReprK X.prog X.w bs s.heap d.depth u d.shown
  | .none, _, _, h, r, hs, hz => by
    cases h; cases r
    obtain ⟨bs, p, q⟩ := ReprK.of_reads (prog := X.prog) (w := X.w) (h₀ := s.heap) .none hs (fun z => by simp [PyData.hasDict] at z) hz
    exact ⟨_, bs, .none, p, q⟩
  | .bool b, _, _, h, r, hs, hz => by
    cases h; cases r
    obtain ⟨bs, p, q⟩ := ReprK.of_reads (prog := X.prog) (w := X.w) (h₀ := s.heap) (.bool b) hs (fun z => by simp [PyData.hasDict] at z) hz
    exact ⟨_, bs, .bool b, p, q⟩
  | .int i, _, _, h, r, hs, hz => by
    cases h; obtain ⟨t, rfl⟩ := r
    obtain ⟨bs, p, q⟩ := ReprK.of_reads (prog := X.prog) (w := X.w) (h₀ := s.heap) (.int i t) hs (fun z => by simp [PyData.hasDict] at z) hz
    exact ⟨_, bs, .int i t, p, q⟩
  | .str x, _, _, h, r, hs, hz => by
    cases h; obtain ⟨t, rfl⟩ := r
    obtain ⟨bs, p, q⟩ := ReprK.of_reads (prog := X.prog) (w := X.w) (h₀ := s.heap) (.str x t) hs (fun z => by simp [PyData.hasDict] at z) hz
    exact ⟨_, bs, .str x t, p, q⟩
  | .list ds, _, _, h, r, hs, hz => by
    cases h with
    | lst e n1 n2 t =>
      cases r
      obtain ⟨its, rv, ⟨o, n, ho, hc, _, hd⟩, _⟩ := I.list (SqL.of e)
      have fits : (listText (PyData.shownAll ds)).length ≤ sizeLine := by simpa only [PyData.shown] using hz
      obtain ⟨as, bs, r1, p, q⟩ := DqAll.shows I ds _ its t rv (by simpa [PyData.showable] using hs) fun x hx => Nat.le_trans (listText_mem_le hx) fits
      have rd := Reads.list ho hc hd r1
      have off := not_mem_of_deeper rd (by simp only [PyData.depth]; omega) p
      refine ⟨_, _, rd, ReadAtMost.cons rd (by simp only [PyData.depth]; omega) p, ?_⟩
      simp only [PyData.depth, PyData.shown]
      cases its with
      | nil =>
        cases r1
        simp only [PyData.shownAll, listText_nil]
        exact ReprK.listEmpty ho hc hd
      | cons y ys => exact ReprK.list ho hc hd off (by simpa using q.length_eq) fun i z e => q.item i z (by simpa using e)
  | .tuple ds, _, _, h, r, hs, hz => by
    cases h with
    | tup e t =>
      cases r
      obtain ⟨its, rv, ⟨o, ho, hc, n, hd⟩, _⟩ := I.tuple e
      have fits : (tupleText (PyData.shownAll ds)).length ≤ sizeLine := by simpa only [PyData.shown] using hz
      obtain ⟨as, bs, r1, p, q⟩ := DqAll.shows I ds _ its t rv (by simpa [PyData.showable] using hs) fun x hx => Nat.le_trans (tupleText_mem_le hx) fits
      have rd := Reads.tuple ho hc hd r1
      have off := not_mem_of_deeper rd (by simp only [PyData.depth]; omega) p
      refine ⟨_, _, rd, ReadAtMost.cons rd (by simp only [PyData.depth]; omega) p, ?_⟩
      simp only [PyData.depth, PyData.shown]
      exact ReprK.tuple ho hc hd off q
  | .dict kvs, v, u, h, r, hs, hz => by
    obtain ⟨as, rd, na⟩ := Dq.reads0 I (.dict kvs) v u h r
    cases h with
    | dct e n1 n2 =>
      obtain ⟨bs, p, q⟩ := ReprK.of_reads (prog := X.prog) (w := X.w) rd hs (fun _ => na rfl) hz
      exact ⟨as, bs, rd, p, q⟩
theorem DqAll.shows (I : Inv X pins σ H s) : ∀ (ds : List PyData) (vs : List V) (us : List Value), DqAll X.K H m l vs ds → Vals vs us → PyData.showableAll ds = true → (∀ t ∈ PyData.shownAll ds, t.length ≤ sizeLine) →
    ∃ as bs, ReadsAll s.heap us ds as ∧ ReadAtMost s.heap (PyData.depthAll ds) bs ∧ ReprAllK X.prog X.w bs s.heap (PyData.depthAll ds) us (PyData.shownAll ds)
  | [], _, _, h, r, _, _ => by
    cases h; cases r
    exact ⟨_, [], .nil, (fun _ z => nomatch z), by simp only [PyData.shownAll]; exact .nil⟩
  | d :: ds, _, _, h, r, hs, hz => by
    cases h with
    | cons h1 h2 =>
      cases r with
      | cons r1 r2 =>
        have both : d.showable = true ∧ PyData.showableAll ds = true := by simpa [PyData.showableAll] using hs
        obtain ⟨as1, bs1, rd1, p1, q1⟩ := Dq.shows I d _ _ h1 r1 both.1 (hz _ (by simp only [PyData.shownAll]; exact List.mem_cons_self ..))
        obtain ⟨as2, bs2, rd2, p2, q2⟩ := DqAll.shows I ds _ _ h2 r2 both.2 (fun x hx => hz x (by simp only [PyData.shownAll]; exact List.mem_cons_of_mem _ hx))
        refine ⟨_, bs1 ++ bs2, .cons rd1 rd2, ?_, ?_⟩
        · simp only [PyData.depthAll]
          exact (p1.mono (Nat.le_max_left _ _)).append (p2.mono (Nat.le_max_right _ _))
        · simp only [PyData.depthAll, PyData.shownAll]
          exact .cons ((q1.more fun b hb => List.mem_append_left _ hb).level_le (Nat.le_max_left _ _)) (q2.more_le (fun b hb => List.mem_append_right _ hb) (Nat.le_max_right _ _))
end
end
/-- repr(x) -/
theorem call_reprD {X : Cx} (hg : X.A.guards = some []) (hu : X.A.units + 64 < cLine) :
    CallR X (.builtin "repr") (fun xs H Q => ∃ x d m l, xs = [x] ∧ Dq X.K H m l x d ∧ d.showable = true ∧ d.depth ≤ 60 ∧ d.shown.length ≤ sizeLine ∧ Q (.str d.shown) H) := by
  intro pins s σ H xs us Q I r h
  obtain ⟨x, d, m, l, rfl, hd, hs, hdep, hlen, q⟩ := h
  cases d with
  | list ds =>
    obtain ⟨u, rfl, rx⟩ := vals1 r
    cases hd with
    | lst e n1 n2 t =>
      cases rx
      obtain ⟨its, rv, ⟨o, n, ho, hc, _, hdt⟩, _⟩ := I.list (SqL.of e)
      have fits : (listText (PyData.shownAll ds)).length ≤ sizeLine := by simpa only [PyData.shown] using hlen
      obtain ⟨as, bs, r1, p, k⟩ := DqAll.shows I ds _ its t rv (by simpa [PyData.showable] using hs) fun y hy => Nat.le_trans (listText_mem_le hy) fits
      have rd := Reads.list ho hc hdt r1
      have off := not_mem_of_deeper rd (by simp only [PyData.depth]; omega) p
      simp only [PyData.depth] at hdep
      refine call_repr_slot (by omega) ⟨o, ho, hc⟩ F.slot_list_repr.toG ?_
      have fin : ∀ (h' : Heap) (u : Tok) (tk : Nat), (∀ b o, s.heap.get? b = some o → h'.get? b = some o) → ∃ x t, Value.str (PyData.list ds).shown u = Value.str x t ∧ EP X pins σ Q (Value.str (PyData.list ds).shown u) { s with heap := h', toks := tk } := fun h' u tk k => ⟨_, _, rfl, V.str _, H, I.kept k, ⟨_, rfl⟩, q⟩
      simp only [PyData.shown] at fin
      cases its with
      | nil =>
        cases r1
        simp only [PyData.shownAll, listText_nil] at fin
        exact call_list_repr_empty ⟨o, ho, hc⟩ ho hdt (fin s.heap _ _ fun _ _ e => e)
      | cons y ys =>
        exact call_list_reprK ho hc hdt off (by simpa using k.length_eq) (fun i z e => k.item i z (by simpa using e)) hg (fun b _ => Clear.nil b) (by show X.A.units + 1 + _ < cLine; omega) (fun _ _ e => e) (fun h' u tk k => fin h' u tk k) fits
  | tuple ds =>
    obtain ⟨u, rfl, rx⟩ := vals1 r
    cases hd with
    | tup e t =>
      cases rx
      obtain ⟨its, rv, ⟨o, ho, hc, n, hdt⟩, _⟩ := I.tuple e
      have fits : (tupleText (PyData.shownAll ds)).length ≤ sizeLine := by simpa only [PyData.shown] using hlen
      obtain ⟨as, bs, r1, p, k⟩ := DqAll.shows I ds _ its t rv (by simpa [PyData.showable] using hs) fun y hy => Nat.le_trans (tupleText_mem_le hy) fits
      have rd := Reads.tuple ho hc hdt r1
      have off := not_mem_of_deeper rd (by simp only [PyData.depth]; omega) p
      simp only [PyData.depth] at hdep
      refine call_repr_slot (by omega) ⟨o, ho, hc⟩ F.slot_tuple_repr ?_
      have fin : ∀ (h' : Heap) (u : Tok) (tk : Nat), (∀ b o, s.heap.get? b = some o → h'.get? b = some o) → ∃ x t, Value.str (PyData.tuple ds).shown u = Value.str x t ∧ EP X pins σ Q (Value.str (PyData.tuple ds).shown u) { s with heap := h', toks := tk } := fun h' u tk k => ⟨_, _, rfl, V.str _, H, I.kept k, ⟨_, rfl⟩, q⟩
      simp only [PyData.shown] at fin
      exact call_tuple_reprK ho hc hdt off k hg (fun b _ => Clear.nil b) (by show X.A.units + 1 + _ < cLine; omega) (fun _ _ e => e) (fun h' u tk k => fin h' u tk k) fits
  | dict kvs =>
    cases hd with
    | dct e n1 n2 => exact call_repr0 hg hu pins s σ H [.ref _] us Q I r ⟨_, _, m, l, rfl, .dct e n1 n2, rfl, hs, hdep, hlen, q⟩
  | none => exact call_repr0 hg hu pins s σ H [x] us Q I r ⟨x, _, m, l, rfl, hd, by simp [plainD, PyData.hasDict], hs, hdep, hlen, q⟩
  | bool b => exact call_repr0 hg hu pins s σ H [x] us Q I r ⟨x, _, m, l, rfl, hd, by simp [plainD, PyData.hasDict], hs, hdep, hlen, q⟩
  | int i => exact call_repr0 hg hu pins s σ H [x] us Q I r ⟨x, _, m, l, rfl, hd, by simp [plainD, PyData.hasDict], hs, hdep, hlen, q⟩
  | str y => exact call_repr0 hg hu pins s σ H [x] us Q I r ⟨x, _, m, l, rfl, hd, by simp [plainD, PyData.hasDict], hs, hdep, hlen, q⟩
end Ms
namespace Ms
open PySem PySem.Spec PyProof.Rows L2
/-! ### data of bounded size -/
mutual
/-- ints within B, signs that are code points, dicts that are empty -/
def okD (B : Nat) : PyData → Bool
  | .none | .bool _ => true
  | .int i => decide (i.natAbs ≤ B)
  | .str x => x.cps.toList.all fun c => decide (c < 0x110000)
  | .list xs | .tuple xs => okAll B xs
  | .dict kvs => kvs.isEmpty
def okAll (B : Nat) : List PyData → Bool
  | [] => true
  | x :: xs => okD B x && okAll B xs
end
theorem okAll_iff {B : Nat} : ∀ {xs : List PyData}, okAll B xs = true ↔ ∀ x ∈ xs, okD B x = true
  | [] => by simp [okAll]
  | x :: xs => by simp [okAll, okAll_iff (xs := xs)]
mutual
theorem okD_mono {B C : Nat} (h : B ≤ C) : ∀ d : PyData, okD B d = true → okD C d = true
  | .none, _ => rfl
  | .bool _, _ => rfl
  | .int i, e => by simp only [okD, decide_eq_true_eq] at e ⊢; omega
  | .str x, e => by simpa only [okD] using e
  | .list xs, e => by simp only [okD] at e ⊢; exact okAll_mono h xs e
  | .tuple xs, e => by simp only [okD] at e ⊢; exact okAll_mono h xs e
  | .dict kvs, e => by simpa only [okD] using e
theorem okAll_mono {B C : Nat} (h : B ≤ C) : ∀ xs : List PyData, okAll B xs = true → okAll C xs = true
  | [], _ => rfl
  | x :: xs, e => by
    simp only [okAll, Bool.and_eq_true] at e ⊢
    exact ⟨okD_mono h x e.1, okAll_mono h xs e.2⟩
end
theorem log_small {i : Int} (h : i.natAbs ≤ 10 ^ 31) : i.natAbs.log2 < 1920 := by
  by_cases z : i.natAbs = 0
  · rw [z]; decide
  · have h1 : i.natAbs < 2 ^ 103 := by
      have e : (10 : Nat) ^ 31 < 2 ^ 103 := by decide
      omega
    have := (Nat.log2_lt z).mpr h1
    omega
theorem int_short {i : Int} (h : i.natAbs ≤ 10 ^ 31) : (PyData.shown (.int i)).length ≤ 64 := by
  have e := int_text_length_le10 (k := 32) (by decide) (show i.natAbs < 10 ^ 32 by
    have z : (10 : Nat) ^ 31 < 10 ^ 32 := by decide
    omega)
  show (Str.ofString (toString i)).length ≤ 64
  rw [PySem.ofString_length]
  omega
mutual
theorem ok_shows : ∀ d : PyData, okD (10 ^ 31) d = true → d.showable = true ∧ d.leavesShort 64 = true
  | .none, _ => ⟨rfl, rfl⟩
  | .bool _, _ => ⟨rfl, rfl⟩
  | .int i, e => by
    simp only [okD, decide_eq_true_eq] at e
    simp only [PyData.showable, PyData.leavesShort, decide_eq_true_eq]
    exact ⟨log_small e, int_short e⟩
  | .str x, e => by
    simp only [okD, List.all_eq_true, decide_eq_true_eq] at e
    refine ⟨rfl, ?_⟩
    simp only [PyData.leavesShort, List.all_eq_true, decide_eq_true_eq]
    intro c hc
    have := e c hc
    have z : (0x110000 : Nat) < 16 ^ 8 := by decide
    omega
  | .list xs, e => by
    simp only [okD] at e
    simp only [PyData.showable, PyData.leavesShort]
    exact okAll_shows xs e
  | .tuple xs, e => by
    simp only [okD] at e
    simp only [PyData.showable, PyData.leavesShort]
    exact okAll_shows xs e
  | .dict [], _ => ⟨rfl, rfl⟩
  | .dict (a :: b), e => by simp [okD] at e
theorem okAll_shows : ∀ xs : List PyData, okAll (10 ^ 31) xs = true → PyData.showableAll xs = true ∧ PyData.leavesShortAll 64 xs = true
  | [], _ => ⟨rfl, rfl⟩
  | x :: xs, e => by
    simp only [okAll, Bool.and_eq_true] at e
    obtain ⟨h1, h2⟩ := ok_shows x e.1
    obtain ⟨h3, h4⟩ := okAll_shows xs e.2
    simp only [PyData.showableAll, PyData.leavesShortAll, h1, h2, h3, h4, Bool.and_self, and_self]
end
/-- data within B, of weight at most a, of depth at most b -/
structure Gd (B a b : Nat) (d : PyData) : Prop where
  ok : okD B d = true
  wt : d.weight ≤ a
  dp : d.depth ≤ b
theorem Gd.mono {B a b B' a' b' : Nat} {d : PyData} (g : Gd B a b d) (h1 : B ≤ B') (h2 : a ≤ a') (h3 : b ≤ b') : Gd B' a' b' d := ⟨okD_mono h1 d g.ok, Nat.le_trans g.wt h2, Nat.le_trans g.dp h3⟩
theorem Gd.shown {a b : Nat} {d : PyData} (g : Gd (10 ^ 31) a b d) (ha : a ≤ 200000) : d.showable = true ∧ d.shown.length ≤ sizeLine := by
  obtain ⟨h1, h2⟩ := ok_shows d g.ok
  refine ⟨h1, ?_⟩
  have h := PyData.shown_le 64 (by decide) d h2
  have w := g.wt
  rw [sizeLine_eq]
  omega
end Ms
namespace Ms
open PySem PySem.Spec PyProof.Rows L2
/-! ### the machine of draws: a dict with the cells, what is left of the great ones, and a count -/
def kvM (c l : Addr) (n : Int) : List (Key × V) := [(.inr "cells", .ref c), (.inr "left", .ref l), (.inr "at", .int n)]
structure Mch (H : Hp) (m l : Addr) (n : Nat) : Prop where
  ex : ∃ (c : Addr) (cs ls : List Int) (z : Int), H m = some (.dK (kvM c l z)) ∧ H c = some (.lst (cs.map V.int)) ∧ H l = some (.lst (ls.map V.int)) ∧ c ≠ l ∧ 0 ≤ z ∧ z ≤ (n : Int) ∧ cs.length ≤ 63 ∧ ls.length ≤ 63
/-- behind a step: all but the machine's own dict and list stand as before -/
structure Fr (m l l' : Addr) (H H' : Hp) : Prop where
  keep : ∀ b o, H b = some o → b ≠ m → b ≠ l → H' b = some o
  new : l' = l ∨ H l' = none
  dom : ∀ b, H b ≠ none → H' b ≠ none
theorem Mch.mm {H : Hp} {m l : Addr} {n : Nat} (M : Mch H m l n) : H m ≠ none := by
  obtain ⟨c, cs, ls, z, h, _⟩ := M.ex
  rw [h]; exact fun z => nomatch z
theorem Fr.refl {m l : Addr} {H : Hp} {n : Nat} (M : Mch H m l n) : Fr m l l H H := ⟨fun _ _ e _ _ => e, .inl rfl, fun _ h => h⟩
theorem upd_dom {H : Hp} {p b : Addr} {o : HO} (h : H b ≠ none) : (upd H p o) b ≠ none := by
  by_cases e : b = p
  · rw [e, upd_same]; exact fun z => nomatch z
  · rw [upd_ne e]; exact h
theorem Fr.free {m l l' p : Addr} {H H' : Hp} (f : Fr m l l' H H') (hp : H' p = none) : H p = none := by
  cases q : H p with
  | none => rfl
  | some o => exact absurd hp (f.dom p (by rw [q]; exact fun z => nomatch z))
theorem Fr.trans {m l l' l'' : Addr} {H H' H'' : Hp} (f : Fr m l l' H H') (g : Fr m l' l'' H' H'') : Fr m l l'' H H'' := by
  have hl : ∀ b o, H b = some o → b ≠ m → b ≠ l → b ≠ l' := fun b o e hm hl => by
    rcases f.new with z | z
    · rw [z]; exact hl
    · exact ne_of_none e z
  refine ⟨fun b o e hm hb => g.keep b o (f.keep b o e hm hb) hm (hl b o e hm hb), ?_, fun b h => g.dom b (f.dom b h)⟩
  rcases g.new with z | z
  · rw [z]; exact f.new
  · exact .inr (f.free z)
theorem Mch.mono {H : Hp} {m l : Addr} {n k : Nat} (M : Mch H m l n) (h : n ≤ k) : Mch H m l k := by
  obtain ⟨c, cs, ls, z, h1, h2, h3, h4, h5, h6, h7⟩ := M.ex
  exact ⟨c, cs, ls, z, h1, h2, h3, h4, h5, by omega, h7⟩
def spBegun (K : PySem.W.Frag) : Sp := fun vs H Q _ => ∃ (a : Addr) (ns : List Int), vs = [.ref a] ∧ SqL K H a (ns.map V.int) ∧ ns.length ≤ 63 ∧
  ∀ (m l : Addr) (H' : Hp), H m = none → H l = none → Same H H' → Mch H' m l 0 → Q (.ref m) H'
structure Txt (mg : Str → Option Value) : Prop where
  list : mg "list" = none
  len : mg "len" = none
  int : mg "int" = none
section
variable {P : Program} {w : World} {K : PySem.W.Frag} {mg : Str → Option Value} {base : Heap}
/-! ### _law_next -/
structure MS (H : Hp) (m c l : Addr) (cs ls : List Int) (z : Int) : Prop where
  dm : H m = some (.dK (kvM c l z))
  dc : H c = some (.lst (cs.map V.int))
  dl : H l = some (.lst (ls.map V.int))
  ne : c ≠ l
theorem MS.junk {H : Hp} {m c l p : Addr} {cs ls : List Int} {z : Int} {o : HO} (S : MS H m c l cs ls z) (hp : H p = none) : MS (upd H p o) m c l cs ls z :=
  ⟨by rw [upd_ne (ne_of_none S.dm hp)]; exact S.dm, by rw [upd_ne (ne_of_none S.dc hp)]; exact S.dc, by rw [upd_ne (ne_of_none S.dl hp)]; exact S.dl, S.ne⟩
theorem Fr.junk {m l l' p : Addr} {H H' : Hp} {o : HO} (f : Fr m l l' H H') (hp : H' p = none) : Fr m l l' H (upd H' p o) := by
  refine ⟨fun b o e h1 h2 => ?_, f.new, fun b h => upd_dom (f.dom b h)⟩
  have q := f.keep b o e h1 h2
  rw [upd_ne (ne_of_none q hp)]; exact q
theorem MS.left {H : Hp} {m c l : Addr} {cs ls : List Int} {z : Int} (S : MS H m c l cs ls z) : DGet H m (.str "left") (some (.ref l)) := by
  have e : valV (kvM c l z) (.inr "left" : Key) = some (.ref l) := by unfold valV kvM; rfl
  rw [← e]; exact DGet.k (k := Sum.inr "left") S.dm
theorem MS.cells {H : Hp} {m c l : Addr} {cs ls : List Int} {z : Int} (S : MS H m c l cs ls z) : DGet H m (.str "cells") (some (.ref c)) := by
  have e : valV (kvM c l z) (.inr "cells" : Key) = some (.ref c) := by unfold valV kvM; rfl
  rw [← e]; exact DGet.k (k := Sum.inr "cells") S.dm
theorem MS.at {H : Hp} {m c l : Addr} {cs ls : List Int} {z : Int} (S : MS H m c l cs ls z) : DGet H m (.str "at") (some (.int z)) := by
  have e : valV (kvM c l z) (.inr "at" : Key) = some (.int z) := by unfold valV kvM; rfl
  rw [← e]; exact DGet.k (k := Sum.inr "at") S.dm
theorem put_left (c l l' : Addr) (z : Int) : putK (kvM c l z) (.inr "left" : Key) (.ref l') = kvM c l' z := by unfold putK kvM; rfl
theorem put_at (c l : Addr) (z z' : Int) : putK (kvM c l z) (.inr "at" : Key) (.int z') = kvM c l z' := by unfold putK kvM; rfl
theorem dpAll_ints {K : PySem.W.Frag} {H : Hp} : ∀ ns : List Int, DpAll K H (ns.map V.int) (ns.map PyData.int)
  | [] => .nil
  | n :: ns => .cons (.int n) (dpAll_ints ns)
theorem lay_ints : ∀ ns : List Int, PyData.canLayAll0 (ns.map PyData.int) = true
  | [] => rfl
  | n :: ns => by
    show (PyData.canLay0 (.int n) && PyData.canLayAll0 (ns.map PyData.int)) = true
    rw [lay_ints ns]; rfl
theorem depth_ints : ∀ ns : List Int, PyData.depthAll (ns.map PyData.int) = 0
  | [] => rfl
  | n :: ns => by
    show max (PyData.depth (.int n)) (PyData.depthAll (ns.map PyData.int)) = 0
    rw [depth_ints ns]; rfl
theorem shaped_ints (ns : List Int) : SeqAt.shaped (.list (ns.map PyData.int)) = true := by
  show (PyData.canLayAll0 (ns.map PyData.int) && decide (PyData.depthAll (ns.map PyData.int) + 1 ≤ 64)) = true
  rw [lay_ints, depth_ints]; rfl
theorem ifF {c : Bool} {A B : Prop} (hc : c = false) (h : B) : if c = true then A else B := by rw [hc, if_neg Bool.false_ne_true]; exact h
theorem ifT {c : Bool} {A B : Prop} (hc : c = true) (h : A) : if c = true then A else B := by rw [if_pos hc]; exact h
theorem cut1 (y : Int) (ys : List Int) : cutV ((y :: ys).map V.int) (some 1) none = ys.map V.int := by
  unfold cutV
  have e1 : HT.sIx ((y :: ys).map V.int).length 0 (some (1 : Int)) = 1 := by
    show HT.sIx _ 0 (some ((1 : Nat) : Int)) = 1
    rw [HT.sIx_nat]
    simp
  have e2 : HT.sIx ((y :: ys).map V.int).length ((y :: ys).map V.int).length none = (y :: ys).length := by
    show ((y :: ys).map V.int).length = _
    rw [List.length_map]
  rw [e1, e2]
  simp only [List.map_cons, List.drop_succ_cons, List.drop_zero, List.length_cons, Nat.add_sub_cancel]
  exact List.take_of_length_le (by simp)
theorem MS.fresh {H : Hp} {m c l p : Addr} {cs ls : List Int} {z : Int} (S : MS H m c l cs ls z) (hp : H p = none) : p ≠ m ∧ p ≠ c ∧ p ≠ l :=
  ⟨(fun e => by rw [e, S.dm] at hp; cases hp), (fun e => by rw [e, S.dc] at hp; cases hp), (fun e => by rw [e, S.dl] at hp; cases hp)⟩
theorem MS.mc {H : Hp} {m c l : Addr} {cs ls : List Int} {z : Int} (S : MS H m c l cs ls z) : m ≠ c := ne_of S.dm S.dc (by intro q; cases q)
theorem MS.ml {H : Hp} {m c l : Addr} {cs ls : List Int} {z : Int} (S : MS H m c l cs ls z) : m ≠ l := ne_of S.dm S.dl (by intro q; cases q)
/-- a new list is put as what is left -/
theorem MS.putL {H : Hp} {m c l p : Addr} {cs ls ls' : List Int} {z : Int} (S : MS H m c l cs ls z) (hp : H p = none) :
    MS (upd (upd H p (.lst (ls'.map V.int))) m (.dK (putK (kvM c l z) (.inr "left" : Key) (.ref p)))) m c p cs ls' z := by
  obtain ⟨n1, n2, n3⟩ := S.fresh hp
  refine ⟨by rw [upd_same, put_left], ?_, ?_, n2.symm⟩
  · rw [upd_ne S.mc.symm, upd_ne n2.symm]; exact S.dc
  · rw [upd_ne n1, upd_same]
theorem Fr.putM {m l l' p : Addr} {H H' : Hp} {o o' : HO} (f : Fr m l l' H H') (hp : H' p = none) : Fr m l p H (upd (upd H' p o) m o') := by
  refine ⟨fun b o e h1 h2 => ?_, .inr (f.free hp), fun b h => upd_dom (upd_dom (f.dom b h))⟩
  have q := f.keep b o e h1 h2
  rw [upd_ne h1, upd_ne (ne_of_none q hp)]; exact q
theorem MS.putA {H : Hp} {m c l : Addr} {cs ls : List Int} {z z' : Int} (S : MS H m c l cs ls z) :
    MS (upd H m (.dK (putK (kvM c l z) (.inr "at" : Key) (.int z')))) m c l cs ls z' :=
  ⟨by rw [upd_same, put_at], by rw [upd_ne S.mc.symm]; exact S.dc, by rw [upd_ne S.ml.symm]; exact S.dl, S.ne⟩
theorem Fr.putA {m l l' : Addr} {H H' : Hp} {o : HO} (f : Fr m l l' H H') : Fr m l l' H (upd H' m o) :=
  ⟨fun b o e h1 h2 => by rw [upd_ne h1]; exact f.keep b o e h1 h2, f.new, fun b h => upd_dom (f.dom b h)⟩
theorem MS.setL {H : Hp} {m c l : Addr} {cs ls ls' : List Int} {z : Int} (S : MS H m c l cs ls z) : MS (upd H l (.lst (ls'.map V.int))) m c l cs ls' z :=
  ⟨by rw [upd_ne S.ml]; exact S.dm, by rw [upd_ne S.ne]; exact S.dc, upd_same, S.ne⟩
theorem Fr.setL {m l l' : Addr} {H H' : Hp} {o : HO} (f : Fr m l l' H H') : Fr m l l' H (upd H' l' o) := by
  refine ⟨fun b o e h1 h2 => ?_, f.new, fun b h => upd_dom (f.dom b h)⟩
  have nb : b ≠ l' := by
    rcases f.new with q | q
    · rw [q]; exact h2
    · exact ne_of_none e q
  rw [upd_ne nb]; exact f.keep b o e h1 h2
theorem MS.mch {H : Hp} {m c l : Addr} {cs ls : List Int} {z : Int} {n : Nat} (S : MS H m c l cs ls z) (h1 : 0 ≤ z) (h2 : z ≤ (n : Int)) (h3 : cs.length ≤ 63) (h4 : ls.length ≤ 63) : Mch H m l n :=
  ⟨c, cs, ls, z, S.dm, S.dc, S.dl, S.ne, h1, h2, h3, h4⟩
def spNext : Sp := fun vs H Q _ => ∃ (m l : Addr) (n : Nat) (k : Int), vs = [.ref m, .int k] ∧ Mch H m l n ∧ n < 1000000 ∧ 0 < k ∧ k < 1000000 ∧
  ∀ (r : Int) (l' : Addr) (H' : Hp), 0 ≤ r → r < k → Mch H' m l' (n + 1) → Fr m l l' H H' → Q (.int r) H'
end
/-! ### growth of the heap -/
theorem Same.upd {H : Hp} {p : Addr} {o : HO} (h : H p = none) : Same H (upd H p o) := fun b q e => by rw [upd_ne (ne_of_none e h)]; exact e
theorem Mch.same {H H' : Hp} {m l : Addr} {n : Nat} (s : Same H H') (M : Mch H m l n) : Mch H' m l n := by
  obtain ⟨c, cs, ls, z, h1, h2, h3, h⟩ := M.ex
  exact ⟨c, cs, ls, z, s _ _ h1, s _ _ h2, s _ _ h3, h⟩
theorem Mch.kept {H H' : Hp} {m l : Addr} {n : Nat} (M : Mch H m l n) (s : Same H H') : Kept m l l H H' := by
  obtain ⟨c, cs, ls, z, h1, h2, h3, h⟩ := M.ex
  exact ⟨fun b o e _ _ => s b o e, fun _ _ _ h => h, ⟨_, h1⟩, ⟨_, h3⟩⟩
theorem Mch.step {H H' : Hp} {m l l' : Addr} {n : Nat} (M : Mch H m l n) (f : Fr m l l' H H') : Kept m l l' H H' := by
  obtain ⟨c, cs, ls, z, h1, h2, h3, h⟩ := M.ex
  refine ⟨f.keep, fun b o e hb => ?_, ⟨_, h1⟩, ⟨_, h3⟩⟩
  rcases f.new with q | q
  · rw [q]; exact hb
  · exact ne_of_none e q
theorem Mch.ne {H : Hp} {m l p : Addr} {n : Nat} (M : Mch H m l n) (h : H p = none) : p ≠ m ∧ p ≠ l := by
  obtain ⟨c, cs, ls, z, h1, h2, h3, _⟩ := M.ex
  exact ⟨(fun e => by rw [e, h1] at h; cases h), (fun e => by rw [e, h3] at h; cases h)⟩
/-- a fresh list, and one behind it -/
theorem Fr.lead {H0 H H' : Hp} {m l l' : Addr} (s : Same H0 H) (f : Fr m l l' H H') : Fr m l l' H0 H' := by
  have d : ∀ b, H0 b ≠ none → H b ≠ none := fun b h => by
    cases q : H0 b with
    | none => exact absurd q h
    | some o => rw [s b o q]; exact fun z => nomatch z
  refine ⟨fun b o e h1 h2 => f.keep b o (s b o e) h1 h2, ?_, fun b h => f.dom b (d b h)⟩
  rcases f.new with q | q
  · exact .inl q
  · exact .inr (Same.free s q)
theorem DqAll.get {K : PySem.W.Frag} {H : Hp} {m l : Addr} : ∀ {ds : List PyData} {vs : List V} {i : Nat} {v : V}, DqAll K H m l vs ds → vs[i]? = some v → ∃ d, ds[i]? = some d ∧ Dq K H m l v d
  | [], _, i, v, h, e => by cases h; simp at e
  | d :: ds, _, 0, v, h, e => by
    cases h with
    | cons h1 h2 => simp at e; subst e; exact ⟨d, rfl, h1⟩
  | d :: ds, _, i + 1, v, h, e => by
    cases h with
    | cons h1 h2 => exact DqAll.get (i := i) h2 (by simpa using e)
end Ms
namespace Ms
open PySem PySem.Spec PyProof.Rows L2
def top (i : Nat) : Stmt := PySem.Challenge.pw_midswitch_k09_whole_plain_rows.main.body.getD i (.Pass ⟨0, 0, 0, 0⟩)
abbrev sIni : Stmt := inClass (top 3) 0
abbrev sIniS : Stmt := inClass (top 4) 0
abbrev sIniP : Stmt := inClass (top 5) 0
abbrev sIniM : Stmt := inClass (top 6) 0
abbrev sIniT : Stmt := inClass (top 7) 0
abbrev sPInt : Stmt := top 13
abbrev sPName : Stmt := top 14
abbrev sPSet : Stmt := top 15
abbrev sNeed : Stmt := top 16
abbrev sPNames : Stmt := top 17
abbrev sPOrder : Stmt := top 18
abbrev sPGrid : Stmt := top 19
abbrev sPStand : Stmt := top 20
abbrev sNStand : Stmt := top 21
abbrev sReqIni : Stmt := inClass (top 26) 0
abbrev sPPRow : Stmt := top 27
abbrev sNPlaces : Stmt := top 28
abbrev sPPlace : Stmt := top 29
abbrev sPAsk : Stmt := top 30
abbrev sPNum : Stmt := top 31
abbrev sNModes : Stmt := top 32
abbrev sPMode : Stmt := top 33
abbrev sPJoined : Stmt := top 34
abbrev sPNwe : Stmt := top 35
abbrev sPRen : Stmt := top 36
abbrev sBegun : Stmt := top 38
abbrev sNext : Stmt := top 39
abbrev sNames : Stmt := top 40
abbrev sSettings : Stmt := top 41
abbrev sOdd : Stmt := top 42
abbrev sBent : Stmt := top 43
abbrev sStandings : Stmt := top 44
abbrev sPlaces : Stmt := top 45
abbrev sModes : Stmt := top 46
abbrev sBegin : Stmt := top 47
abbrev sGone : Stmt := top 48
abbrev sPlain : Stmt := top 49
abbrev sPlains : Stmt := top 50
abbrev sLaw : Stmt := top 51
abbrev sReqLen : Stmt := inClass (top 26) 1
abbrev sReqEq : Stmt := inClass (top 26) 2
abbrev sReqAdd : Stmt := inClass (top 26) 3
abbrev sReqKeep : Stmt := inClass (top 26) 4
abbrev sReqWith : Stmt := inClass (top 26) 5
abbrev sReqStr : Stmt := inClass (top 26) 6
abbrev sReqPlain : Stmt := inClass (top 26) 7
end Ms
namespace Ms
open PySem PySem.Spec PyProof.Rows L2
section
variable {P : Program} {w : World} {K : PySem.W.Frag} {mg : Str → Option Value} {base : Heap}
theorem scB : FnScope ["script", "cell"] ["script"] (defScope sBegun) := ⟨rfl, rfl, rfl, by decide +kernel, rfl, by decide +kernel, by decide +kernel⟩
theorem ok_begun {f : Addr} {fd : FuncData} (F : Fun K "_law_begun" "_law_begun" sBegun f fd) (T : Txt mg) : FnOk P w K mg base CX0 1 f fd ["script"] (spBegun K) := by
  refine F.ok scB (fun vs H Q E h => ?_) (fun cdv A outer s H vs Q E hr h => ?_)
  · obtain ⟨a, ns, rfl, _⟩ := h
    rfl
  · obtain ⟨a, ns, rfl, hS, hlen, k⟩ := h
    have hu := hu_of hr
    refine ⟨_, pss_one (ps_ret (pe_disp (pps_cons pe_str (pe_callTy call_list_of (by rfl) T.list (by decide +kernel) (pa_cons (pv 0) pa_nil))
      (pps_cons pe_str (pe_lc (own := [("cell", 1)]) (g := gName 1) (by rfl) scB.nd (pi_list (pv 0)) (blkOk_by (own := [("cell", 1)]) (N := ["script", "cell"]) (sc := defScope sBegun) (by decide +kernel))
        (fun _ _ _ _ _ => pg_name (i := 1) scB.nd rfl (Or.inl rfl)) (fun _ _ _ _ _ => pts_one (pt_cmpR op_ge (pv 1) (pe_op op_pow pe_int pe_int) (nomark _))) (fun _ _ _ _ _ => pv 1))
      (pps_cons pe_str pe_int pps_nil))) (by rfl) (by rfl) (fun z => by cases z) (by decide))), ?_⟩
    intro m hm
    have s0 : Same H (upd H m (.dK [])) := fun b o e => by rw [upd_ne (ne_of_none e hm)]; exact e
    refine ⟨_, rfl, a, _, rfl, .inl (s0.seq hS), fun c hc => ?_⟩
    have ncm : c ≠ m := fun z => by rw [z, upd_same] at hc; cases hc
    have hc0 : H c = none := by rw [upd_ne ncm] at hc; exact hc
    have s1 : Same H (upd (upd H m (.dK [])) c (.lst (ns.map V.int))) := fun b o e => by rw [upd_ne (ne_of_none e hc0)]; exact s0 b o e
    refine ⟨_, rfl, a, rfl, ⟨_, s1.seq hS⟩, fun l hl => ?_⟩
    have nlc : l ≠ c := fun z => by rw [z, upd_same] at hl; cases hl
    have hl1 : (upd H m (.dK [])) l = none := by rw [upd_ne nlc] at hl; exact hl
    have nlm : l ≠ m := fun z => by rw [z, upd_same] at hl1; cases hl1
    have hl0 : H l = none := by rw [upd_ne nlm] at hl1; exact hl1
    refine lc_list (K := K) (a := a) (xs := ns.map V.int) (fun i H2 => ∃ ls : List Int, ls.length ≤ i ∧ H2 = upd (upd (upd H m (.dK [])) c (.lst (ns.map V.int))) l (.lst (ls.map V.int))) ⟨[], Nat.le_refl _, rfl⟩ (fun i H2 _ ⟨ls, _, e⟩ => ?_) ?_ ?_
    · have s2 : Same H H2 := fun b o q => by rw [e, upd_ne (ne_of_none q hl0)]; exact s1 b o q
      exact s2.seq hS
    · rintro i x H2 hi ⟨ls, hls, e⟩
      obtain ⟨z, rfl⟩ : ∃ z, x = V.int z := by
        rw [List.getElem?_map] at hi
        cases q : ns[i]? with
        | none => rw [q] at hi; cases hi
        | some z => rw [q] at hi; exact ⟨z, (Option.some.inj hi).symm⟩
      have hil : i < ns.length := by
        have q := (List.getElem?_eq_some_iff.mp hi).1
        rw [List.length_map] at q
        exact q
      refine ⟨rfl, _, rfl, _, _, rfl, rfl, ⟨by decide, by decide, by decide⟩, _, _, rfl, rfl, _, rfl, ?_⟩
      refine ite2 (fun _ => ?_) (fun _ => ?_)
      · refine ⟨_, rfl, ls.map V.int, by rw [e]; exact upd_same, small1000 (by rw [List.length_map]; omega), ls ++ [z], ?_, ?_⟩
        · rw [List.length_append, List.length_singleton]; omega
        · rw [e, upd_upd, List.map_append]; rfl
      · exact ⟨ls, by omega, e⟩
    · rintro H2 ⟨ls, hls, e⟩
      rw [List.length_map] at hls
      refine ⟨?_, [(.inr "cells", .ref c), (.inr "left", .ref l), (.inr "at", .int 0)], rfl, (by show 3 ≤ 15; decide), ?_⟩
      · rw [e, upd_ne nlm.symm, upd_ne ncm.symm, upd_same]
      · refine k m l _ hm hl0 (fun b o q => ?_) ⟨c, ns, ls, 0, ?_, ?_, ?_, nlc.symm, Int.le_refl _, Int.le_refl _, hlen, by omega⟩
        · rw [upd_ne (ne_of_none q hm), e, upd_ne (ne_of_none q hl0)]; exact s1 b o q
        · rw [upd_same]; rfl
        · rw [upd_ne ncm, e, upd_ne nlc.symm, upd_same]
        · rw [upd_ne nlm, e, upd_same]

theorem scN : FnScope ["m", "many", "rest", "at", "lot", "cell", "blend"] ["m", "many"] (defScope sNext) := ⟨rfl, rfl, rfl, by decide +kernel, rfl, by decide +kernel, by decide +kernel⟩
set_option maxHeartbeats 4000000 in
theorem ok_next {f : Addr} {fd : FuncData} (F : Fun K "_law_next" "_law_next" sNext f fd) (T : Txt mg) : FnOk P w K mg base CX0 1 f fd ["m", "many"] spNext := by
  refine F.ok scN (fun vs H Q E h => ?_) (fun cdv A outer s H vs Q E hr h => ?_)
  · obtain ⟨m, l, n, k, rfl, _⟩ := h
    rfl
  · obtain ⟨m, l, n, k, rfl, M, hn, hk, hk2, q⟩ := h
    have hu := hu_of hr
    refine ⟨_, pss_cons (ps_while PassesOwn.never (PW.pt (pw_and (pt_cmpR (op_neD hr.units) (pe_dget hu (pv 0) pe_str (fun _ _ => rfl)) (pe_lst pa_nil) (nomark _))
          (pw_and1 (pt_cmpR op_eq (pe_ix ix_list (pe_dget hu (pv 0) pe_str (fun _ _ => rfl)) pe_int (fun _ _ => rfl)) pe_int (nomark _)))))
        (pss_one (ps_dput hu (pv 0) pe_str (pe_slice sl_list (pe_dget hu (pv 0) pe_str (fun _ _ => rfl)) (po_some pe_int) po_none) rfl)))
      (pss_cons (ps_if (pt_cmpR (op_neD hr.units) (pe_dget hu (pv 0) pe_str (fun _ _ => rfl)) (pe_lst pa_nil) (nomark _))
        (pss_cons (ps_set (i := 2) scN.nd rfl (Or.inl rfl) (pe_ix ix_list (pe_dget hu (pv 0) pe_str (fun _ _ => rfl)) pe_int (fun _ _ => rfl)))
          (pss_cons (ps_asg (pe_op op_fdiv (pv 2) (pv 1)) (pg_sub (pe_dget hu (pv 0) pe_str (fun _ _ => rfl)) pe_int set_list))
          (pss_one (ps_ret (pe_op op_mod (pe_callTy call_int1 (by rfl) T.int (by decide +kernel) (pa_cons (pv 2) pa_nil)) (pv 1))))))
        pss_nil)
      (pss_cons (ps_par (i := 3) (j := 4) (by rfl) scN.nd rfl rfl (by decide) rfl rfl (pa_cons (pe_op op_add (pe_dget hu (pv 0) pe_str (fun _ _ => rfl)) pe_int) (pa_cons (pe_dget hu (pv 0) pe_str (fun _ _ => rfl)) pa_nil)) (by rfl))
      (pss_cons (ps_dput hu (pv 0) pe_str (pv 3) rfl)
      (pss_cons (ps_set (i := 5) scN.nd rfl (Or.inl rfl) (pe_ifExp (pt_cmpR (op_neD hr.units) (pv 4) (pe_lst pa_nil) (nomark _))
        (pe_callTy call_int1 (by rfl) T.int (by decide +kernel) (pa_cons (pe_ix ix_list (pv 4) (pe_op op_mod (pe_callTy call_int1 (by rfl) T.int (by decide +kernel) (pa_cons (pe_op op_add (pe_op op_mul (pv 3) (pv 3)) (pe_op op_fdiv (pv 3) pe_int)) pa_nil))
          (pe_callB call_len_seq (by rfl) T.len PySem.boot_len (pa_cons (pv 4) pa_nil))) (fun _ _ => rfl)) pa_nil)) pe_int))
      (pss_cons (ps_set (i := 6) scN.nd rfl (Or.inl rfl) (pe_op op_mod (pe_callTy call_int1 (by rfl) T.int (by decide +kernel) (pa_cons (pe_op op_add (pe_op op_add (pe_op op_mul (pv 5) pe_int) (pe_op op_mul (pv 3) pe_int)) (pe_op op_mul (pe_op op_mul pe_int (pv 3)) (pv 3))) pa_nil)) pe_int))
      (pss_one (ps_ret (pe_op op_mod (pe_callTy call_int1 (by rfl) T.int (by decide +kernel) (pa_cons (pe_op op_fdiv (pe_op op_mod (pe_callTy call_int1 (by rfl) T.int (by decide +kernel) (pa_cons (pe_op op_add (pe_op op_mul (pv 6) pe_int) (pe_op op_mul pe_int (pv 3))) pa_nil)) pe_int) pe_int) pa_nil)) (pv 1))))))))), ?_⟩
    obtain ⟨c, cs, ls, z, h1, h2, h3, h4, h5, h6, h7, h8⟩ := M.ex
    refine (show ∀ D : Ends, (∀ l2 ls2 H3, H3 l ≠ none → ls2.length ≤ 63 → MS H3 m c l2 cs ls2 z → Fr m l l2 H H3 → D.nx [some (.ref m), some (.int k), none, none, none, none, none] H3) → tWhile _ _ D _ _ from ?_) _ ?_
    · intro D rest
      refine ⟨fun N σ H2 => σ = [some (.ref m), some (.int k), none, none, none, none, none] ∧ ∃ l2 ls, ls.length = N ∧ ls.length ≤ 63 ∧ H2 l ≠ none ∧ MS H2 m c l2 cs ls z ∧ Fr m l l2 H H2, ⟨_, rfl, l, ls, rfl, h8, (by rw [h3]; exact fun z => nomatch z), ⟨h1, h2, h3, h4⟩, Fr.refl M⟩, ?_⟩
      rintro N σ H2 ⟨rfl, l2, ls2, rfl, hz, hl2, S, f⟩
      refine ⟨_, rfl, m, .ref l2, rfl, S.left, Nat.zero_le _, fun p hp => ?_⟩
      have S' := S.junk (o := .lst []) hp
      have f' := f.junk (o := .lst []) hp
      have nz : ∀ {H2 : Hp} {p : Addr}, H2 l ≠ none → ∀ o, (upd H2 p o) l ≠ none := fun {H2 p} hl2 o => by
        by_cases e : l = p
        · rw [e, upd_same]; exact fun z => nomatch z
        · rw [upd_ne e]; exact hl2
      refine ⟨.list (ls2.map PyData.int), .list [], .lst (SqL.of S'.dl) (dpAll_ints _), .lst (SqL.of upd_same) .nil, shaped_ints _, rfl, _, rfl, ?_⟩
      cases ls2 with
      | nil =>
        refine ifF rfl ?_
        refine ifF rfl ?_
        exact rest l2 [] _ (nz hl2 _) hz S' f'
      | cons y ys =>
        refine ifT rfl ?_
        refine ⟨_, rfl, m, .ref l2, rfl, S'.left, l2, _, 0, .int y, rfl, rfl, SqL.of S'.dl, atI_nat (j := 0) rfl, rfl, _, rfl, ?_⟩
        refine ite2 (fun _ => ?_) (fun _ => rest l2 (y :: ys) _ (nz hl2 _) hz S' f')
        refine ⟨fun σ' H' => σ' = [some (.ref m), some (.int k), none, none, none, none, none] ∧ ∃ l2, H' l ≠ none ∧ MS H' m c l2 cs ys z ∧ Fr m l l2 H H', (fun σ' H' ⟨e, l3, g1, g2, g3⟩ => ⟨ys.length, by simp, e, l3, ys, rfl, by simp at hz; omega, g1, g2, g3⟩), ?_⟩
        refine ⟨_, rfl, m, .ref l2, rfl, S'.left, ⟨1, rfl, l2, _, rfl, SqL.of S'.dl, fun p2 hp2 => ?_⟩⟩
        rw [cut1]
        refine ⟨_, rfl, m, _, rfl, DPut.k (k := Sum.inr "left") (S'.junk hp2).dm (by show 3 < sizeLine; exact small1000 (by decide)), rfl, p2, nz (nz (nz hl2 _) _) _, S'.putL hp2, f'.putM hp2⟩
    · intro l2 ls2 H3 hl3 hz S f
      refine ⟨_, rfl, m, .ref l2, rfl, S.left, Nat.zero_le _, fun p hp => ?_⟩
      have S' := S.junk (o := .lst []) hp
      have f' := f.junk (o := .lst []) hp
      refine ⟨.list (ls2.map PyData.int), .list [], .lst (SqL.of S'.dl) (dpAll_ints _), .lst (SqL.of upd_same) .nil, shaped_ints _, rfl, _, rfl, ?_⟩
      cases ls2 with
      | cons y ys =>
        refine ifT rfl ?_
        refine ⟨_, rfl, m, .ref l2, rfl, S'.left, l2, _, 0, .int y, rfl, rfl, SqL.of S'.dl, atI_nat (j := 0) rfl, ?_⟩
        refine ⟨_, rfl, _, rfl, _, _, rfl, rfl, ⟨hk, by omega⟩, _, rfl, m, .ref l2, rfl, S'.left, l2, _, 0, 0, rfl, rfl, S'.dl, (by unfold ixN; rw [if_pos (by decide), if_pos (by simp only [List.map_cons, List.length_cons]; omega)]; rfl), ?_⟩
        refine ⟨_, rfl, .inl ⟨_, rfl, _, rfl, _, _, rfl, rfl, hk, ?_⟩⟩
        have S2 := S'.setL (ls' := (y / k) :: ys)
        exact q _ l2 _ (Int.emod_nonneg _ (by omega)) (Int.emod_lt_of_pos _ hk) (S2.mch h5 (by omega) h7 (by simpa using hz)) f'.setL
      | nil =>
        refine ifF rfl ?_
        refine ⟨_, rfl, m, .int z, rfl, S'.at, _, _, rfl, rfl, _, rfl, m, .ref c, rfl, S'.cells, _, _, rfl, ?_⟩
        refine ⟨_, rfl, _, rfl, m, _, rfl, DPut.k (k := Sum.inr "at") S'.dm (by show 3 < sizeLine; exact small1000 (by decide)), ?_⟩
        have S2 := S'.putA (z' := z + 1)
        have f2 := f'.putA (o := (.dK (putK (kvM c l2 z) (.inr "at" : Key) (.int (z + 1)))))
        refine ⟨_, rfl, Nat.zero_le _, fun p2 hp2 => ?_⟩
        have S3 := S2.junk (o := .lst []) hp2
        have f3 := f2.junk (o := .lst []) hp2
        refine ⟨.list (cs.map PyData.int), .list [], .lst (SqL.of S3.dc) (dpAll_ints _), .lst (SqL.of upd_same) .nil, shaped_ints _, rfl, _, rfl, ?_⟩
        cases cs with
        | nil =>
          refine ifF rfl ?_
          refine ⟨_, rfl, _, _, rfl, rfl, .inr ⟨by decide, by decide⟩, _, rfl, _, _, rfl, rfl, .inr ⟨by decide, by decide⟩, _, _, rfl, rfl, _, rfl, _, _, rfl, rfl, .inl ⟨by decide, by decide⟩, _, rfl, _, _, rfl, rfl, .inr ⟨by omega, by omega⟩, _, _, rfl, rfl, .inl ⟨_, rfl, _, _, rfl, rfl, (by show (0 : Int) < 2147483399; decide), ?_⟩⟩
          refine ⟨_, rfl, _, _, rfl, rfl, .inr ⟨by decide, by decide⟩, _, rfl, _, _, rfl, rfl, .inl ⟨by decide, by decide⟩, _, _, rfl, rfl, .inl ⟨_, rfl, _, _, rfl, rfl, (by show (0 : Int) < 2147483647; decide), _, _, rfl, rfl, ⟨by decide, by decide⟩, .inl ⟨_, rfl, _, rfl, _, _, rfl, rfl, hk, ?_⟩⟩⟩
          exact q _ l2 _ (Int.emod_nonneg _ (by omega)) (Int.emod_lt_of_pos _ hk) (S3.mch (by omega) (by omega) h7 (by simp)) f3
        | cons y ys =>
          refine ifT rfl ?_
          refine ⟨_, rfl, _, rfl, _, rfl, _, _, rfl, rfl, .inl ⟨by omega, by omega⟩, _, rfl, _, _, rfl, rfl, ⟨by decide, by decide⟩, _, _, rfl, rfl, .inl ⟨_, rfl, ?_⟩⟩
          have hlen : ((y :: ys).map V.int).length = ys.length + 1 := by rw [List.length_map, List.length_cons]
          refine ⟨_, rfl, c, _, rfl, .inl (SqL.of S3.dc), _, _, rfl, rfl, (by rw [hlen]; omega), ?_⟩
          generalize hg : ((z + 1) * (z + 1) + (z + 1) / 2) % ((((y :: ys).map V.int).length : Nat) : Int) = g
          have g0 : 0 ≤ g := by rw [← hg, hlen]; exact Int.emod_nonneg _ (by omega)
          have g1 : g < ((y :: ys).length : Nat) := by rw [← hg, hlen]; exact Int.emod_lt_of_pos _ (by omega)
          obtain ⟨gn, rfl⟩ : ∃ gn : Nat, g = (gn : Int) := ⟨g.toNat, by omega⟩
          obtain ⟨u, hu2⟩ : ∃ u, (y :: ys)[gn]? = some u := ⟨_, List.getElem?_eq_getElem (by omega)⟩
          refine ⟨c, _, (gn : Int), .int u, rfl, congrArg V.int hg, SqL.of S3.dc, atI_nat (by rw [List.getElem?_map, hu2]; rfl), .inl ⟨_, rfl, ?_⟩⟩
          refine ⟨_, rfl, _, _, rfl, rfl, .inr ⟨by decide, by decide⟩, _, rfl, _, _, rfl, rfl, .inr ⟨by decide, by decide⟩, _, _, rfl, rfl, _, rfl, _, _, rfl, rfl, .inl ⟨by decide, by decide⟩, _, rfl, _, _, rfl, rfl, .inr ⟨by omega, by omega⟩, _, _, rfl, rfl, .inl ⟨_, rfl, _, _, rfl, rfl, (by show (0 : Int) < 2147483399; decide), ?_⟩⟩
          refine ⟨_, rfl, _, _, rfl, rfl, .inr ⟨by decide, by decide⟩, _, rfl, _, _, rfl, rfl, .inl ⟨by decide, by decide⟩, _, _, rfl, rfl, .inl ⟨_, rfl, _, _, rfl, rfl, (by show (0 : Int) < 2147483647; decide), _, _, rfl, rfl, ⟨by decide, by decide⟩, .inl ⟨_, rfl, _, rfl, _, _, rfl, rfl, hk, ?_⟩⟩⟩
          exact q _ l2 _ (Int.emod_nonneg _ (by omega)) (Int.emod_lt_of_pos _ hk) (S3.mch (by omega) (by omega) h7 (by simp)) f3
end
end Ms
namespace Ms
open PySem PySem.Spec PyProof.Rows L2
structure TxtN (mg : Str → Option Value) (fN : Addr) : Prop extends Txt mg where
  next : mg "_law_next" = some (.ref fN)
  range : mg "range" = none
  tuple : mg "tuple" = none
  zip : mg "zip" = none
/-- s * n -/
theorem op_mul_si {X : Cx} : OpR X (binaryOp .Mult) (fun x y H Q => ∃ z i, x = .str z ∧ y = .int i ∧ PySem.MulOk z i ∧ Q (.str (Txt.mul z i)) H) := by
  intro pins s σ H x y v u Q I rx ry h
  obtain ⟨z, i, rfl, rfl, ok, q⟩ := h
  obtain ⟨t, rfl⟩ := rx
  obtain ⟨t', rfl⟩ := ry
  exact PySem.SB.mul ok fun t2 k => ⟨.str _, H, I.tok _, ⟨_, rfl⟩, q⟩
theorem tyes {σ : L2.St} {H : Hp} {R S : Hp → Prop} (h : R H) : tYes σ H (fun b H3 => if b = true then R H3 else S H3) := by
  show if true = true then R H else S H
  rw [if_pos rfl]
  exact h
/-- a list of texts grows by one -/
theorem str_grow {H8 H9 : Hp} {D : Addr} {ys : List Str} {y : Str} (e : H9 = upd H8 D (.lst (ys.map V.str))) : upd H9 D (.lst (ys.map V.str ++ [.str y])) = upd H8 D (.lst ((ys ++ [y]).map V.str)) := by
  rw [e, upd_upd, List.map_append]
  rfl
/-! ### short texts -/
def sOk (a : Nat) (z : Str) : Prop := z.length ≤ a ∧ ∀ c ∈ z.cps.toList, c < 0x110000
theorem sOk.mono {a b : Nat} {z : Str} (h : sOk a z) (k : a ≤ b) : sOk b z := ⟨Nat.le_trans h.1 k, h.2⟩
theorem sOk.app {a b : Nat} {z y : Str} (h : sOk a z) (k : sOk b y) : sOk (a + b) (z ++ y) := by
  refine ⟨by rw [Str.length_append]; exact Nat.add_le_add h.1 k.1, fun c hc => ?_⟩
  have e : (z ++ y).cps.toList = z.cps.toList ++ y.cps.toList := Array.toList_append
  rw [e] at hc
  exact (List.mem_append.mp hc).elim (h.2 c) (k.2 c)
theorem sOk.cut {a : Nat} {z : Str} (h : sOk a z) (lo hi : Option Int) : sOk a (cutS z lo hi) := by
  refine ⟨?_, fun c hc => h.2 c ?_⟩
  · show ((z.cps.toList.drop (HT.sIx z.length 0 lo)).take (HT.sIx z.length z.length hi - HT.sIx z.length 0 lo)).toArray.size ≤ a
    have e : z.cps.toList.length ≤ a := by rw [Array.length_toList]; exact h.1
    rw [List.size_toArray, List.length_take, List.length_drop]
    omega
  · have hc' : c ∈ ((z.cps.toList.drop (HT.sIx z.length 0 lo)).take (HT.sIx z.length z.length hi - HT.sIx z.length 0 lo)) := by simpa [cutS] using hc
    exact List.mem_of_mem_drop (List.mem_of_mem_take hc')
theorem sOk.sign {c : Nat} (h : c < 0x110000) : sOk 1 ⟨#[c]⟩ := ⟨Nat.le_refl _, fun d hd => by simp at hd; rw [hd]; exact h⟩
theorem sOk.okd {a B : Nat} {z : Str} (h : sOk a z) : okD B (.str z) = true := by
  simp only [okD, List.all_eq_true, decide_eq_true_eq]
  exact h.2
abbrev alpha : Str := "abcdefghijklmnopqrstuvwxyz"
theorem alpha_list : alpha.cps.toList = [97, 98, 99, 100, 101, 102, 103, 104, 105, 106, 107, 108, 109, 110, 111, 112, 113, 114, 115, 116, 117, 118, 119, 120, 121, 122] := by decide +kernel
theorem alpha_at {i : Int} (h0 : 0 ≤ i) (h1 : i < 26) : ∃ c, atI alpha.cps.toList i = some c ∧ c < 0x110000 := by
  obtain ⟨j, rfl⟩ : ∃ j : Nat, i = (j : Int) := ⟨i.toNat, by omega⟩
  have hl : alpha.cps.toList.length = 26 := by rw [alpha_list]; rfl
  obtain ⟨c, hc⟩ : ∃ c, alpha.cps.toList[j]? = some c := ⟨_, List.getElem?_eq_getElem (by rw [hl]; omega)⟩
  refine ⟨c, atI_nat hc, ?_⟩
  have z : ∀ d ∈ alpha.cps.toList, d < 0x110000 := by rw [alpha_list]; decide
  exact z c (List.mem_of_getElem? hc)
theorem alpha_len : alpha.length ≤ sizeLine := by decide +kernel
theorem mul8 (c : Nat) : Txt.mul ⟨#[c]⟩ 8 = ⟨#[c, c, c, c, c, c, c, c]⟩ := by rfl
theorem mul8_ok (c : Nat) : PySem.MulOk ⟨#[c]⟩ 8 := ⟨by decide, fun _ _ => by show ¬ ((1 : Nat) : Int) > (2 ^ 63 - 1) / 8; decide, fun _ _ => rfl⟩
section
variable {P : Program} {w : World} {K : PySem.W.Frag} {mg : Str → Option Value} {base : Heap} {fN : Addr}
abbrev NN : List Str := ["m", "many", "letters", "stem", "k", "at", "first", "by", "word"]
theorem scNm : FnScope NN ["m", "many"] (defScope sNames) := ⟨rfl, rfl, rfl, by decide +kernel, rfl, by decide +kernel, by decide +kernel⟩
def spNames : Sp := fun vs H Q _ => ∃ (m l : Addr) (n : Nat) (k : Nat), vs = [.ref m, .int (k : Int)] ∧ Mch H m l n ∧ n < 900000 ∧ 1 ≤ k ∧ k ≤ 8 ∧
  ∀ (p : Addr) (ys : List Str) (l' : Addr) (H' : Hp), H p = none → H' p = some (.lst (ys.map V.str)) → ys.length = k → (∀ y ∈ ys, sOk 16 y) → p ≠ m → p ≠ l' → Mch H' m l' (n + 11) → Fr m l l' H H' → Q (.ref p) H'
theorem ok_names {f : Addr} {fd fdN : FuncData} (F : Fun K "_law_names" "_law_names" sNames f fd) (T : TxtN mg fN) (FN : Fun K "_law_next" "_law_next" sNext fN fdN) (bN : Binds K fdN ["m", "many"] []) : FnOk P w K mg base CX0 2 f fd ["m", "many"] spNames := by
  have GN : FnOk P w K mg base CX0 1 fN fdN ["m", "many"] spNext := ok_next FN T.toTxt
  refine F.ok scNm (fun vs H Q E h => ?_) (fun cdv A outer s H vs Q E hr h => ?_)
  · obtain ⟨m, l, n, k, rfl, _⟩ := h
    rfl
  · obtain ⟨m, l, n, k, rfl, M, hn, hk, hk2, q⟩ := h
    refine ⟨_, pss_cons (ps_asg (pe_tup (pa_cons pe_str (pa_cons pe_str pa_nil))) (pg_tup rfl (pgs_cons (pg_name (i := 2) scNm.nd rfl (Or.inr rfl)) (pgs_cons (pg_name (i := 3) scNm.nd rfl (Or.inr rfl)) pgs_nil))))
      (pss_cons (ps_for PassesOwn.never rfl (pi_range1 (by rfl) T.range (pa_cons (pe_call GN hr rfl T.next FN.kp bN .nil pass0 (pa_cons (pv 0) (pa_cons pe_int pa_nil))) pa_nil)) (pg_name (i := 4) scNm.nd rfl (Or.inl rfl))
        (pss_one (ps_set (i := 3) scNm.nd rfl (Or.inr rfl) (pe_op op_add_str (pv 3) (pe_ix ix_str (pv 2) (pe_call GN hr rfl T.next FN.kp bN .nil pass0 (pa_cons (pv 0) (pa_cons pe_int pa_nil))) (fun _ _ => rfl))))))
      (pss_cons (ps_asg (pe_tup (pa_cons (pe_call GN hr rfl T.next FN.kp bN .nil pass0 (pa_cons (pv 0) (pa_cons (pe_op op_add (pe_callB call_len_str (by rfl) T.len PySem.boot_len (pa_cons (pv 3) pa_nil)) pe_int) pa_nil)))
          (pa_cons (pe_call GN hr rfl T.next FN.kp bN .nil pass0 (pa_cons (pv 0) (pa_cons pe_int pa_nil)))
          (pa_cons (pe_ix ix_list (pe_lst (pa_cons pe_int (pa_cons pe_int (pa_cons pe_int (pa_cons pe_int (pa_cons pe_int (pa_cons pe_int pa_nil))))))) (pe_call GN hr rfl T.next FN.kp bN .nil pass0 (pa_cons (pv 0) (pa_cons pe_int pa_nil))) (fun _ _ => rfl)) pa_nil))))
        (pg_tup rfl (pgs_cons (pg_name (i := 5) scNm.nd rfl (Or.inr rfl)) (pgs_cons (pg_name (i := 6) scNm.nd rfl (Or.inr rfl)) (pgs_cons (pg_name (i := 7) scNm.nd rfl (Or.inr rfl)) pgs_nil)))))
      (pss_cons (ps_set (i := 8) scNm.nd rfl (Or.inr rfl) (pe_slice sl_str (pe_op op_add_str (pv 3) (pe_op op_mul_si (pe_ix ix_str (pv 2) (pv 6) (fun _ _ => rfl)) pe_int)) po_none (po_some pe_int)))
      (pss_cons (ps_if (pt_cmpR op_gt (pv 7) pe_int (nomark _)) (pss_one (ps_ret (pe_lc (own := [("k", 4)]) (g := gName 4) (by rfl) scNm.nd (pi_range1 (by rfl) T.range (pa_cons (pv 1) pa_nil)) (blkOk_by (own := [("k", 4)]) (N := NN) (sc := defScope sNames) (by decide +kernel))
          (fun _ _ _ _ _ => pg_name (i := 4) scNm.nd rfl (Or.inl rfl)) (fun _ _ _ _ _ => pts_nil) (fun _ _ _ _ _ => pe_ifExp (pt_cmpR op_gt (pv 7) pe_int (nomark _)) (pe_slice sl_str (pv 8) (po_some (pv 4)) po_none) (pe_slice sl_str (pv 8) po_none (po_some (pe_op op_sub (pe_op op_add (pv 4) pe_int) (pv 1)))))))) pss_nil)
      (pss_one (ps_ret (pe_lc (own := [("k", 4)]) (g := gName 4) (by rfl) scNm.nd (pi_range1 (by rfl) T.range (pa_cons (pv 1) pa_nil)) (blkOk_by (own := [("k", 4)]) (N := NN) (sc := defScope sNames) (by decide +kernel))
          (fun _ _ _ _ _ => pg_name (i := 4) scNm.nd rfl (Or.inl rfl)) (fun _ _ _ _ _ => pts_nil) (fun _ _ _ _ _ => pe_op op_add_str (pe_op op_add_str (pe_slice sl_str (pv 3) po_none (po_some (pv 5)))
            (pe_ix ix_str (pv 2) (pe_op op_mod (pe_callTy call_int1 (by rfl) T.int (by decide +kernel) (pa_cons (pe_op op_add (pv 6) (pe_op op_mul (pv 7) (pv 4))) pa_nil)) pe_int) (fun _ _ => rfl))) (pe_slice sl_str (pv 3) (po_some (pv 5)) po_none))))))))), ?_⟩
    refine ⟨(by show 2 ≤ sizeLine; decide), fun p1 h1 => ⟨p1, _, rfl, .inl (.inl upd_same), rfl, _, _, rfl, _, _, rfl, rfl, ?_⟩⟩
    have s1 : Same H _ := Same.upd (o := .tup [.str alpha, .str ""]) h1
    refine ⟨_, rfl, m, l, n, 8, rfl, M.same s1, by omega, by decide, by decide, fun r0 l1 H1 r0p r0l M1 f1 => ?_⟩
    refine ⟨r0, rfl, by omega, by omega, ?_⟩
    refine for_range (lo := 0) (n := r0.toNat) (fun i σ H2 => ∃ (z : Str) (v4 : Option V) (l2 : Addr), σ = [some (.ref m), some (.int (k : Int)), some (.str alpha), some (.str z), v4, none, none, none, none] ∧ sOk i z ∧ Mch H2 m l2 (n + 1 + i) ∧ Fr m l l2 H H2)
      ⟨"", _, l1, rfl, ⟨Nat.le_refl _, fun c hc => by cases hc⟩, M1, Fr.lead s1 f1⟩ ?_ ?_
    · rintro i σ H2 hi ⟨z, v4, l2, rfl, hz, M2, f2⟩
      refine ⟨_, rfl, _, rfl, _, rfl, m, l2, _, 26, rfl, M2, by omega, by decide, by decide, fun r l3 H3 rp rl M3 f3 => ?_⟩
      obtain ⟨c, hc, hc2⟩ := alpha_at rp rl
      refine ⟨alpha, r, c, rfl, rfl, alpha_len, hc, z, _, rfl, rfl, ?_, ?_⟩
      · have := hz.1
        show z.length + 1 ≤ sizeLine
        exact small1000 (by omega)
      · exact ⟨_, _, l3, rfl, hz.app (sOk.sign hc2), M3, f2.trans f3⟩
    · rintro σ H2 ⟨z, v4, l2, rfl, hz, M2, f2⟩
      have z7 := hz.1
      have zs : z.length ≤ sizeLine := Nat.le_of_lt (small1000 (by omega))
      refine ⟨_, rfl, _, rfl, z, rfl, zs, _, _, rfl, rfl, m, l2, _, (z.length : Int) + 1, rfl, M2, by omega, by omega, by omega, fun r5 l3 H3 a5 b5 M3 f3 => ?_⟩
      refine ⟨_, rfl, m, l3, _, 26, rfl, M3, by omega, by decide, by decide, fun r6 l4 H4 a6 b6 M4 f4 => ?_⟩
      refine ⟨(by show 6 ≤ sizeLine; decide), fun pL hL => ?_⟩
      have sL := Same.upd (o := .lst [.int 1, .int 3, .int 5, .int 7, .int 9, .int 11]) hL
      have nL := M4.ne hL
      refine ⟨_, rfl, m, l4, _, 6, rfl, M4.same sL, by omega, by decide, by decide, fun r7 l5 H5 a7 b7 M5 f5 => ?_⟩
      obtain ⟨b, hb, b1, b11⟩ : ∃ b : Int, atI ([.int 1, .int 3, .int 5, .int 7, .int 9, .int 11] : List V) r7 = some (.int b) ∧ 1 ≤ b ∧ b ≤ 11 := by
        obtain ⟨j, rfl⟩ : ∃ j : Nat, r7 = (j : Int) := ⟨r7.toNat, by omega⟩
        have hj : j < 6 := by omega
        match j, hj with
        | 0, _ => exact ⟨1, rfl, by decide, by decide⟩
        | 1, _ => exact ⟨3, rfl, by decide, by decide⟩
        | 2, _ => exact ⟨5, rfl, by decide, by decide⟩
        | 3, _ => exact ⟨7, rfl, by decide, by decide⟩
        | 4, _ => exact ⟨9, rfl, by decide, by decide⟩
        | 5, _ => exact ⟨11, rfl, by decide, by decide⟩
      refine ⟨pL, _, r7, .int b, rfl, rfl, SqL.of (f5.keep pL _ upd_same nL.1 nL.2), hb, (by show 3 ≤ sizeLine; decide), fun p3 h3 => ?_⟩
      have F5 : Fr m l l5 H H5 := f2.trans (f3.trans (f4.trans (Fr.lead sL f5)))
      refine ⟨p3, _, rfl, .inl (.inl upd_same), rfl, _, _, rfl, _, _, rfl, _, _, rfl, rfl, ?_⟩
      have s3 := Same.upd (o := .tup [.int r5, .int r6, .int b]) h3
      have M6 := M5.same s3
      have F6 := F5.junk (o := .tup [.int r5, .int r6, .int b]) h3
      obtain ⟨c6, hc6, cc6⟩ := alpha_at a6 b6
      refine ⟨_, rfl, _, rfl, _, rfl, alpha, r6, c6, rfl, rfl, alpha_len, hc6, _, 8, rfl, rfl, mul8_ok c6, z, _, rfl, rfl, ?_, 8, rfl, _, rfl, ?_, ?_⟩
      · rw [mul8]
        show z.length + 8 ≤ sizeLine
        exact Nat.le_of_lt (small1000 (by omega))
      · rw [mul8, Str.length_append]
        show z.length + 8 ≤ sizeLine
        exact Nat.le_of_lt (small1000 (by omega))
      obtain ⟨W, hW, eW⟩ : ∃ W, sOk 16 W ∧ W = cutS (z ++ Txt.mul { cps := #[c6] } 8) none (some 8) := ⟨_, by
        rw [mul8]
        exact (((hz.mono (show r0.toNat ≤ 7 by omega)).app (b := 8) ⟨by show 8 ≤ 8; decide, fun d hd => by simp at hd; rw [hd]; exact cc6⟩).mono (by decide)).cut _ _, rfl⟩
      rw [← eW]
      have Wl : W.length ≤ sizeLine := Nat.le_trans hW.1 (by decide)
      have ek : ((k : Int)).toNat = k := by omega
      refine ⟨_, rfl, _, _, rfl, rfl, _, rfl, ite2 (fun _ => ?_) (fun _ => ?_)⟩
      · refine ⟨_, rfl, (k : Int), rfl, by omega, by omega, fun D hD => ?_⟩
        have nD := M6.ne hD
        refine lc_range (lo := 0) (n := ((k : Int)).toNat) (fun i H9 => ∃ ys : List Str, ys.length = i ∧ (∀ y ∈ ys, sOk 16 y) ∧ H9 = upd _ D (.lst (ys.map V.str))) ⟨[], rfl, (fun y hy => nomatch hy), rfl⟩ ?_ ?_
        · rintro i H9 hi ⟨ys, yl, yo, e9⟩
          refine ⟨rfl, tyes ?_⟩
          refine ⟨_, rfl, _, _, rfl, rfl, _, rfl, ite2 (fun _ => ?_) (fun _ => ?_)⟩
          · refine ⟨_, rfl, _, rfl, _, rfl, _, rfl, Wl, _, by rw [e9]; exact upd_same, small1000 (by rw [List.length_map]; omega), _, (by rw [List.length_append, yl]; rfl), ?_, str_grow e9⟩
            intro y hy
            rcases List.mem_append.mp hy with hy | hy
            · exact yo y hy
            · rw [List.mem_singleton.mp hy]; exact hW.cut _ _
          · refine ⟨_, rfl, _, rfl, _, _, rfl, rfl, _, rfl, _, _, rfl, rfl, _, rfl, _, rfl, Wl, _, by rw [e9]; exact upd_same, small1000 (by rw [List.length_map]; omega), _, (by rw [List.length_append, yl]; rfl), ?_, str_grow e9⟩
            intro y hy
            rcases List.mem_append.mp hy with hy | hy
            · exact yo y hy
            · rw [List.mem_singleton.mp hy]; exact hW.cut _ _
        · rintro H9 ⟨ys, yl, yo, e9⟩
          have sD := Same.upd (o := .lst (ys.map V.str)) hD
          rw [e9]
          exact q D ys l5 _ (F6.free hD) upd_same (by omega) yo nD.1 nD.2 ((M6.same sD).mono (by omega)) (F6.junk hD)
      · refine ⟨_, rfl, (k : Int), rfl, by omega, by omega, fun D hD => ?_⟩
        have nD := M6.ne hD
        refine lc_range (lo := 0) (n := ((k : Int)).toNat) (fun i H9 => ∃ ys : List Str, ys.length = i ∧ (∀ y ∈ ys, sOk 16 y) ∧ H9 = upd _ D (.lst (ys.map V.str))) ⟨[], rfl, (fun y hy => nomatch hy), rfl⟩ ?_ ?_
        · rintro i H9 hi ⟨ys, yl, yo, e9⟩
          have hz7 : sOk 7 z := hz.mono (by omega)
          obtain ⟨c9, hc9, cc9⟩ := alpha_at (i := (r6 + b * (0 + (i : Int))) % 26) (Int.emod_nonneg _ (by decide)) (Int.emod_lt_of_pos _ (by decide))
          have p1 := (hz7.cut none (some r5))
          have p2 := (p1.app (sOk.sign cc9))
          have p3' := p2.app (hz7.cut (some r5) none)
          refine ⟨rfl, tyes ?_⟩
          refine ⟨_, rfl, _, rfl, _, rfl, _, rfl, zs, _, rfl, _, rfl, _, rfl, _, rfl, _, _, rfl, rfl, .inr ⟨by omega, by omega⟩, _, _, rfl, rfl, .inl ⟨_, rfl, _, _, rfl, rfl, (by show (0 : Int) < 26; decide), ?_⟩⟩
          refine ⟨alpha, _, c9, rfl, rfl, alpha_len, hc9, _, _, rfl, rfl, ?_, _, rfl, _, rfl, _, rfl, _, rfl, zs, _, _, rfl, rfl, ?_, _, by rw [e9]; exact upd_same, small1000 (by rw [List.length_map]; omega), _, (by rw [List.length_append, yl]; rfl), ?_, str_grow e9⟩
          · have := p1.1
            show _ + 1 ≤ sizeLine
            exact Nat.le_of_lt (small1000 (by omega))
          · have := p2.1
            have := (hz7.cut (some r5) none).1
            exact Nat.le_of_lt (small1000 (by omega))
          · intro y hy
            rcases List.mem_append.mp hy with hy | hy
            · exact yo y hy
            · rw [List.mem_singleton.mp hy]; exact p3'.mono (by decide)
        · rintro H9 ⟨ys, yl, yo, e9⟩
          have sD := Same.upd (o := .lst (ys.map V.str)) hD
          rw [e9]
          exact q D ys l5 _ (F6.free hD) upd_same (by omega) yo nD.1 nD.2 ((M6.same sD).mono (by omega)) (F6.junk hD)
end
end Ms
namespace Ms
open PySem PySem.Spec PyProof.Rows L2
/-! ### zip(list, tuple) over KE's draws -/
/-- the list at a, the tuple at b, the items in new pairs -/
def ItZM (K : PySem.W.Frag) (a b : Addr) : It :=
  ⟨fun i H => ∃ (xs ys : List V), SqL K H a xs ∧ SqT K H b ys ∧ i < xs.length ∧ i < ys.length,
    fun i H v H' => ∃ T x y, v = .ref T ∧ H T = none ∧ H' = upd H T (.tup [x, y]) ∧ (∀ xs, SqL K H a xs → xs[i]? = some x) ∧ ∀ ys, SqT K H b ys → ys[i]? = some y,
    fun i H => ∃ xs ys : List V, SqL K H a xs ∧ SqT K H b ys ∧ i ≤ xs.length ∧ i ≤ ys.length ∧ (i = xs.length ∨ i = ys.length)⟩
theorem walk_zm {K : PySem.W.Frag} {a b : Addr} {xs ys : List V} {n : Nat} (hn : n = min xs.length ys.length) : Walk (ItZM K a b) n (fun H => SqL K H a xs ∧ SqT K H b ys) (YPair (fun i => xs[i]?) (fun i => ys[i]?)) := by
  subst hn
  refine ⟨fun i _ hi q => ⟨xs, ys, q.1, q.2, by omega, by omega⟩, fun _ q => ⟨xs, ys, q.1, q.2, by omega, by omega, by omega⟩, fun i H v H' _ q y => ?_⟩
  obtain ⟨T, x, z, h1, h2, h3, h4, h5⟩ := y
  exact ⟨T, x, z, h1, h2, h3, h4 xs q.1, h5 ys q.2⟩
section
variable {a b z TI TO i1 i2 : Addr}
abbrev zmCells (z TI TO i1 i2 : Addr) : List Addr := [z, TI, TO, i1, i2]
abbrev ZmSt (a b z TI TO i1 i2 : Addr) : Nat → Heap → Prop := fun i h => IsZip h z TI TO .none ∧ IsTupOf2 h TI (.ref i1) (.ref i2) ∧ (∃ x y, IsTupOf2 h TO x y) ∧ h.IsListIter i1 a i ∧ h.IsTupleIter i2 b i
theorem zm_mem {c z TI TO i1 i2 : Addr} (h : c ∈ zmCells z TI TO i1 i2) : c = z ∨ c = TI ∨ c = TO ∨ c = i1 ∨ c = i2 := by simpa using h
theorem zm_there {i : Nat} {h : Heap} (st : ZmSt a b z TI TO i1 i2 i h) : ∀ c ∈ zmCells z TI TO i1 i2, ∃ o, h.get? c = some o ∧ ∀ v, o.data ≠ .cell v := fun c hc => by
  obtain ⟨hz, hTI, ⟨x, y, hTO⟩, ⟨o1, e1, _, d1⟩, ⟨o2, e2, _, d2⟩⟩ := st
  rcases zm_mem hc with rfl | rfl | rfl | rfl | rfl
  · exact ⟨_, hz, fun v q => nomatch q⟩
  · exact ⟨_, hTI, fun v q => nomatch q⟩
  · exact ⟨_, hTO, fun v q => nomatch q⟩
  · exact ⟨o1, e1, fun v q => by rw [d1] at q; cases q⟩
  · exact ⟨o2, e2, fun v q => by rw [d2] at q; cases q⟩
theorem turn_zm {P : Program} {w : World} {K : PySem.W.Frag} {elts : List Expr} {kk : Nat} {tpos : Pos} (S : ZipSep2 z TI TO i1 i2 [i1, a] [i2, b]) (na : a ≠ i1) (nb : b ≠ i2) :
    Turn P w K (.Tuple elts kk tpos) (ItZM K a b) (zmCells z TI TO i1 i2) z (ZmSt a b z TI TO i1 i2) where
  mem := by simp
  obj := fun i h st => zm_there st
  keep := fun i h h' st k => by
    obtain ⟨hz, hTI, ⟨x, y, hTO⟩, h1, h2⟩ := st
    exact ⟨k z (by simp) _ hz, k TI (by simp) _ hTI, ⟨x, y, k TO (by simp) _ hTO⟩, h1.at fun o q => k i1 (by simp) o q, h2.at fun o q => k i2 (by simp) o q⟩
  item := by
    intro X hP hw hK hc i pins s σ H E I hf st hg
    subst hP hw hK
    have live := zm_there st
    obtain ⟨hz, hTI, ⟨x0, y0, hTO⟩, h1, h2⟩ := st
    obtain ⟨xs, ys, hqx, hqy, hi1, hi2⟩ := hg
    obtain ⟨its, rv, p, _⟩ := I.list hqx
    obtain ⟨its2, rv2, p2, _⟩ := I.tuple hqy
    have l1 := rv.length
    have l2 := rv2.length
    have hh : X.A.in1.handled = none := I.ok.hd hc
    have fresh : ∀ c ∈ zmCells z TI TO i1 i2, c ≠ s.heap.objs.size := fun c hc => by
      obtain ⟨o, e, _⟩ := live c hc
      exact Nat.ne_of_lt (Heap.lt_size e)
    refine wpAny_pyNext_zipD2_item S (Draws.list hh i1 a na its.toArray) (Draws.tuple hh i2 b nb its2.toArray) hz hTI hTO ⟨h1, p.isList⟩ ⟨h2, p2⟩ (by simp; omega) (by simp; omega) fun u u2 h' tk hu hu2 z' TO' st1' st2' hT hsz hk => ?_
    refine ⟨_, rfl, wpAny_letOwnedTupleGo_zip (s := { s with heap := h', toks := tk }) z' fun h'' z'' sb => ?_⟩
    have hx : xs[i]? = some xs[i] := List.getElem?_eq_getElem hi1
    have hy : ys[i]? = some ys[i] := List.getElem?_eq_getElem hi2
    obtain ⟨v, hv, ru⟩ := rv.get hx
    obtain ⟨v2, hv2, ru2⟩ := rv2.get hy
    have e1 : u = v := by simp [hv] at hu; exact hu.symm
    have e2 : u2 = v2 := by simp [hv2] at hu2; exact hu2.symm
    subst e1 e2
    have zN := fresh z (by simp)
    have hT2 : h''.get? s.heap.objs.size = some { cls := .type "tuple", data := .seq #[u, u2] } := (sb.2 _ zN.symm).trans hT
    have new : ObjOk X.prog X.w (upd H s.heap.objs.size (.tup [xs[i], ys[i]])) h'' s.heap.objs.size (.tup [xs[i], ys[i]]) :=
      ⟨(by show 2 ≤ sizeLine; decide), [u, u2], .cons ru (.cons ru2 .nil), ⟨_, hT2, rfl, _, rfl⟩⟩
    have I1 : L2.Inv X pins σ (upd H s.heap.objs.size (.tup [xs[i], ys[i]])) { s with heap := h'', toks := tk } :=
      I.turnedNew (t' := tk) (ch := zmCells z TI TO i1 i2) (fun c o hb q => (sb.2 c fun e => hb (by simp [e])).trans (hk c o (fun e => hb (by simp [e])) (fun e => hb (by simp [e])) (fun e => hb (by simp [e])) (fun e => hb (by simp [e])) q)) hf (Nat.le_refl _) new
    refine ⟨.ref s.heap.objs.size, _, I1, rfl, ⟨_, xs[i], ys[i], rfl, I.hok.fresh (Nat.le_refl _), rfl, fun l hl => ?_, fun l hl => ?_⟩, ⟨z'', (sb.2 _ S.TIz).trans (hk _ _ S.TIz S.TITO S.TIi1 S.TIi2 hTI), ⟨_, _, (sb.2 _ S.TOz).trans TO'⟩, st1'.1.at fun o q => (sb.2 _ S.zi1.symm).trans q, st2'.1.at fun o q => (sb.2 _ S.zi2.symm).trans q⟩, fun c hcm => ?_⟩
    · rw [I.list_inj hl hqx]; exact hx
    · rw [I.tuple_inj hl hqy]; exact hy
    · rw [upd_ne (fresh c hcm)]
      exact (hf c hcm).1
  done := by
    intro X hP hw hK hc i pins s σ H E I hf st hg
    subst hP hw hK
    obtain ⟨hz, hTI, ⟨x0, y0, hTO⟩, h1, h2⟩ := st
    obtain ⟨xs, ys, hqx, hqy, hi1, hi2, hend⟩ := hg
    obtain ⟨its, rv, p, _⟩ := I.list hqx
    obtain ⟨its2, rv2, p2, _⟩ := I.tuple hqy
    have l1 := rv.length
    have l2 := rv2.length
    have hh : X.A.in1.handled = none := I.ok.hd hc
    exact wpAny_pyNext_zipD2_end S (Draws.list hh i1 a na its.toArray) (Draws.tuple hh i2 b nb its2.toArray) hz hTI hTO ⟨h1, p.isList⟩ ⟨h2, p2⟩ (by simp; omega) (by simp; omega) (by simp; omega) fun h' tk hk =>
      ⟨rfl, I.turnedL (t' := tk) (ch := zmCells z TI TO i1 i2) (fun c o hb q => hk c o (fun e => hb (by simp [e])) (fun e => hb (by simp [e])) (fun e => hb (by simp [e])) (fun e => hb (by simp [e])) q) hf⟩
  self := fun A i s Q E st h => wpAny_pyIter_zip st.1 h
end
/-- zip(list, tuple) -/
def iZM (K : PySem.W.Frag) (ta : TA) : TI := fun σ H R => ta σ H fun vs H1 => ∃ a b xs ys, vs = [.ref a, .ref b] ∧ SqL K H1 a xs ∧ SqT K H1 b ys ∧ R (ItZM K a b) H1
theorem pi_zm {X : Cx} {e e2 : Expr} {ta : TA} {p pos tpos : Pos} {elts : List Expr} {kk : Nat} (hg : Gl X "zip") (hm : X.mg "zip" = none) (ha : PA X [e, e2] ta)
    (hs : starEach [e, e2] X.env = (false, eval e X.env) :: starEach [e2] X.env := by rfl) (hpl : (backTo pos (starEach [e2] X.env)).any (·.1) = false := by rfl) :
    PI X (.Tuple elts kk tpos) (.Call (.Name "zip" p) [e, e2] [] pos) (iZM X.K ta) := by
  refine ⟨fun pins s σ H R I h => Call_ (ld_blt I hg hm PyProof.Rows.boot_zip (PyProof.Rows.callWith_type1 (thn (ha.run pos pins s σ H _ I h) fun us s1 ⟨vs, H1, I1, r1, q1⟩ => ?_) hs hpl))⟩
  obtain ⟨a, b, xs, ys, ex, hqx, hqy, q⟩ := q1
  subst ex
  cases r1 with
  | cons r rr =>
    cases rr with
    | cons r' rr =>
      cases rr
      cases r
      cases r'
      obtain ⟨its, rv, p1, _⟩ := I1.list hqx
      obtain ⟨its2, rv2, p2, _⟩ := I1.tuple hqy
      obtain ⟨o2, ho2, _⟩ := id p2
      have la := p1.lt
      have lb : b < s1.heap.objs.size := Heap.lt_size ho2
      have fp : ∀ c ∈ zmCells (s1.heap.objs.size + 4) (s1.heap.objs.size + 2) (s1.heap.objs.size + 3) s1.heap.objs.size (s1.heap.objs.size + 1), FpOk X pins H1 c := fun c hcm => by
        have hle : s1.heap.objs.size ≤ c := by
          rcases zm_mem hcm with q | q | q | q | q
          · rw [q]; exact Nat.le_add_right _ _
          · rw [q]; exact Nat.le_add_right _ _
          · rw [q]; exact Nat.le_add_right _ _
          · rw [q]; exact Nat.le_refl _
          · rw [q]; exact Nat.le_add_right _ _
        exact I1.fpOk hle (I1.hok.fresh hle)
      have S : ZipSep2 (s1.heap.objs.size + 4) (s1.heap.objs.size + 2) (s1.heap.objs.size + 3) s1.heap.objs.size (s1.heap.objs.size + 1) [s1.heap.objs.size, a] [s1.heap.objs.size + 1, b] :=
        zip_sep2 (fun c h => by rw [List.mem_singleton.mp h]; exact la) (fun c h => by rw [List.mem_singleton.mp h]; exact lb)
      have nb : b ≠ s1.heap.objs.size + 1 := Nat.ne_of_lt (Nat.lt_succ_of_lt lb)
      have T := turn_zm (P := X.prog) (w := X.w) (K := X.K) (elts := elts) (kk := kk) (tpos := tpos) S (Nat.ne_of_lt la) nb
      refine zip_begins2 (begins_list a its.toArray) (begins_tuple b its2.toArray) p1.isList p2 fun h' hz hTI hTO h1 h2 hsz hk => wpAny_pyIter_zip hz ?_
      have I2 : L2.Inv X pins σ H1 { s1 with heap := h' } := I1.kept (t' := s1.toks) hk
      exact ⟨s1.heap.objs.size + 4, zmCells (s1.heap.objs.size + 4) (s1.heap.objs.size + 2) (s1.heap.objs.size + 3) s1.heap.objs.size (s1.heap.objs.size + 1), _, ItZM X.K a b, H1, rfl, I2, T,
        ⟨hz, hTI, ⟨_, _, hTO⟩, ⟨_, h1, rfl, rfl⟩, ⟨_, h2, rfl, rfl⟩⟩, fp, q⟩
end Ms
namespace Ms
open PySem PySem.Spec PyProof.Rows L2
/-! ### _law_settings -/
/-- pairs of a text and an int, each a tuple of its own -/
inductive Prs (H : Hp) : List Addr → List (Str × Int) → Prop
  | nil : Prs H [] []
  | cons {a : Addr} {as : List Addr} {y : Str} {k : Int} {ys : List (Str × Int)} : H a = some (.tup [.str y, .int k]) → Prs H as ys → Prs H (a :: as) ((y, k) :: ys)
theorem Prs.same {H H' : Hp} {as : List Addr} {ys : List (Str × Int)} (s : ∀ b o, b ∈ as → H b = some o → H' b = some o) (p : Prs H as ys) : Prs H' as ys := by
  induction p with
  | nil => exact .nil
  | cons h _ ih => exact .cons (s _ _ (List.mem_cons_self ..) h) (ih fun b o hb => s b o (List.mem_cons_of_mem _ hb))
theorem Prs.snoc {H : Hp} {as : List Addr} {ys : List (Str × Int)} {a : Addr} {y : Str} {k : Int} (p : Prs H as ys) (h : H a = some (.tup [.str y, .int k])) : Prs H (as ++ [a]) (ys ++ [(y, k)]) := by
  induction p with
  | nil => exact .cons h .nil
  | cons h' _ ih => exact .cons h' ih
theorem Prs.length {H : Hp} {as : List Addr} {ys : List (Str × Int)} (p : Prs H as ys) : as.length = ys.length := by
  induction p with
  | nil => rfl
  | cons _ _ ih => simp [ih]
theorem Prs.live {H : Hp} {as : List Addr} {ys : List (Str × Int)} (p : Prs H as ys) : ∀ a ∈ as, ∃ y k, H a = some (.tup [.str y, .int k]) := by
  induction p with
  | nil => intro a h; cases h
  | cons h' _ ih =>
    intro b hb
    rcases List.mem_cons.mp hb with rfl | hb
    · exact ⟨_, _, h'⟩
    · exact ih b hb
theorem Prs.get {H : Hp} {as : List Addr} {ys : List (Str × Int)} (p : Prs H as ys) : ∀ {i : Nat} {a : Addr}, as[i]? = some a → ∃ y k, ys[i]? = some (y, k) ∧ H a = some (.tup [.str y, .int k]) := by
  induction p with
  | nil => intro i a h; simp at h
  | cons h' _ ih =>
    intro i b hb
    cases i with
    | zero => simp at hb; subst hb; exact ⟨_, _, rfl, h'⟩
    | succ i => exact ih (by simpa using hb)
/-- the data of such pairs -/
def prD (ys : List (Str × Int)) : List PyData := ys.map fun q => .tuple [.str q.1, .int q.2]
theorem Prs.dq {K : PySem.W.Frag} {H : Hp} {m l : Addr} {as : List Addr} {ys : List (Str × Int)} (p : Prs H as ys) : DqAll K H m l (as.map V.ref) (prD ys) := by
  induction p with
  | nil => exact .nil
  | cons h _ ih => exact .cons (.tup (.inl (.inl h)) (.cons (.str _) (.cons (.int _) .nil))) ih
theorem Fr.trail {m l l' : Addr} {H H1 H2 : Hp} (f : Fr m l l' H H1) (s : Same H1 H2) : Fr m l l' H H2 :=
  ⟨fun b o e h1 h2 => s _ _ (f.keep b o e h1 h2), f.new, fun b h => by
    cases q : H1 b with
    | none => exact absurd q (f.dom b h)
    | some o => rw [s _ _ q]; exact fun z => nomatch z⟩
/-- how often each may stand: one to three small ints -/
def Mo (H : Hp) (a : Addr) : Prop := ∃ ms : List Int, H a = some (.tup (ms.map V.int)) ∧ 1 ≤ ms.length ∧ ms.length ≤ 3 ∧ ∀ x ∈ ms, 1 ≤ x ∧ x ≤ 3
theorem Mo.same {H H' : Hp} {a : Addr} (s : Same H H') (h : Mo H a) : Mo H' a := by
  obtain ⟨ms, e, r⟩ := h
  exact ⟨ms, s _ _ e, r⟩
section
variable {P : Program} {w : World} {K : PySem.W.Frag} {mg : Str → Option Value} {base : Heap} {fN fM : Addr}
structure TxtS (mg : Str → Option Value) (fN fM : Addr) : Prop extends TxtN mg fN where
  names : mg "_law_names" = some (.ref fM)
abbrev NS : List Str := ["m", "mosts", "some", "name", "most"]
theorem scSt : FnScope NS ["m"] (defScope sSettings) := ⟨rfl, rfl, rfl, by decide +kernel, rfl, by decide +kernel, by decide +kernel⟩
/-- good pairs: names of at most 16 signs, small numbers -/
def okP (ys : List (Str × Int)) : Prop := ∀ q ∈ ys, sOk 16 q.1 ∧ 1 ≤ q.2 ∧ q.2 ≤ 3
def spSettings : Sp := fun vs H Q _ => ∃ (m l : Addr) (n : Nat), vs = [.ref m] ∧ Mch H m l n ∧ n < 800000 ∧
  ∀ (p : Addr) (as : List Addr) (ys : List (Str × Int)) (l' : Addr) (H' : Hp), H' p = some (.tup (as.map V.ref)) → Prs H' as ys → 1 ≤ ys.length → ys.length ≤ 3 → okP ys → Mch H' m l' (n + 12) → Fr m l l' H H' → Q (.ref p) H'
theorem ok_settings {f : Addr} {fd fdN fdM : FuncData} (F : Fun K "_law_settings" "_law_settings" sSettings f fd) (T : TxtS mg fN fM) (FN : Fun K "_law_next" "_law_next" sNext fN fdN) (bN : Binds K fdN ["m", "many"] [])
    (FM : Fun K "_law_names" "_law_names" sNames fM fdM) (bM : Binds K fdM ["m", "many"] []) : FnOk P w K mg base CX0 3 f fd ["m"] spSettings := by
  have GN : FnOk P w K mg base CX0 2 fN fdN ["m", "many"] spNext := (ok_next FN T.toTxt).mono (by decide)
  have GM : FnOk P w K mg base CX0 2 fM fdM ["m", "many"] spNames := ok_names FM T.toTxtN FN bN
  refine F.ok scSt (fun vs H Q E h => ?_) (fun cdv A outer s H vs Q E hr h => ?_)
  · obtain ⟨m, l, n, rfl, _⟩ := h
    rfl
  · obtain ⟨m, l, n, rfl, M, hn, q⟩ := h
    refine ⟨_, pss_cons (ps_set (i := 1) scSt.nd rfl (by first | exact Or.inl rfl | exact Or.inr rfl) (pe_lst (pa_cons (pe_tup (pa_cons pe_int pa_nil)) (pa_cons (pe_tup (pa_cons pe_int pa_nil)) (pa_cons (pe_tup (pa_cons pe_int pa_nil)) (pa_cons (pe_tup (pa_cons pe_int (pa_cons pe_int pa_nil))) (pa_cons (pe_tup (pa_cons pe_int (pa_cons pe_int pa_nil))) (pa_cons (pe_tup (pa_cons pe_int (pa_cons pe_int pa_nil))) (pa_cons (pe_tup (pa_cons pe_int (pa_cons pe_int pa_nil))) (pa_cons (pe_tup (pa_cons pe_int (pa_cons pe_int pa_nil))) (pa_cons (pe_tup (pa_cons pe_int (pa_cons pe_int pa_nil))) (pa_cons (pe_tup (pa_cons pe_int (pa_cons pe_int (pa_cons pe_int pa_nil)))) (pa_cons (pe_tup (pa_cons pe_int (pa_cons pe_int (pa_cons pe_int pa_nil)))) (pa_cons (pe_tup (pa_cons pe_int (pa_cons pe_int (pa_cons pe_int pa_nil)))) pa_nil))))))))))))))
      (pss_cons (ps_set (i := 2) scSt.nd rfl (by first | exact Or.inl rfl | exact Or.inr rfl) (pe_ix ix_list (pv 1) (pe_call GN hr rfl T.next FN.kp bN .nil pass0 (pa_cons (pv 0) (pa_cons pe_int pa_nil))) (fun _ _ => rfl)))
      (pss_one (ps_ret (pe_callTy call_tuple_of (by rfl) T.tuple (by decide +kernel) (pa_cons (pe_lc (own := [("name", 3), ("most", 4)]) (g := gTup K 2 (gCons (gName 3) (gCons (gName 4) gNil))) (by rfl) scSt.nd
        (pi_zm (by rfl) T.zip (pa_cons (pe_call GM hr rfl T.names FM.kp bM .nil pass0 (pa_cons (pv 0) (pa_cons (pe_callB call_len (by rfl) T.len PySem.boot_len (pa_cons (pv 2) pa_nil)) pa_nil))) (pa_cons (pv 2) pa_nil)))
        (blkOk_by (own := [("name", 3), ("most", 4)]) (N := NS) (sc := defScope sSettings) (by decide +kernel))
        (fun _ _ _ _ _ => pg_tup rfl (pgs_cons (pg_name (i := 3) scSt.nd rfl (Or.inl rfl)) (pgs_cons (pg_name (i := 4) scSt.nd rfl (Or.inl rfl)) pgs_nil))) (fun _ _ _ _ _ => pts_nil)
        (fun _ _ _ _ _ => pe_tup (pa_cons (pv 3) (pa_cons (pv 4) pa_nil)))) pa_nil))))), ?_⟩
    refine ⟨(by show 1 ≤ sizeLine; decide), fun p1 h1 => ?_⟩
    obtain ⟨G1, e1⟩ : ∃ G, G = upd H p1 (.tup [.int 1]) := ⟨_, rfl⟩
    rw [← e1]
    have s1 : Same H G1 := e1 ▸ Same.upd h1
    have M1 := M.same s1
    have f1 : Fr m l l H G1 := e1 ▸ (Fr.refl M).junk h1
    have a1_1 : Mo G1 p1 := ⟨[1], by rw [e1, upd_same]; rfl, by decide, by decide, by decide⟩
    refine ⟨(by show 1 ≤ sizeLine; decide), fun p2 h2 => ?_⟩
    obtain ⟨G2, e2⟩ : ∃ G, G = upd G1 p2 (.tup [.int 2]) := ⟨_, rfl⟩
    rw [← e2]
    have s2 : Same G1 G2 := e2 ▸ Same.upd h2
    have M2 := M1.same s2
    have f2 : Fr m l l H G2 := e2 ▸ f1.junk h2
    have a2_2 : Mo G2 p2 := ⟨[2], by rw [e2, upd_same]; rfl, by decide, by decide, by decide⟩
    have a1_2 := a1_1.same s2
    refine ⟨(by show 1 ≤ sizeLine; decide), fun p3 h3 => ?_⟩
    obtain ⟨G3, e3⟩ : ∃ G, G = upd G2 p3 (.tup [.int 3]) := ⟨_, rfl⟩
    rw [← e3]
    have s3 : Same G2 G3 := e3 ▸ Same.upd h3
    have M3 := M2.same s3
    have f3 : Fr m l l H G3 := e3 ▸ f2.junk h3
    have a3_3 : Mo G3 p3 := ⟨[3], by rw [e3, upd_same]; rfl, by decide, by decide, by decide⟩
    have a1_3 := a1_2.same s3
    have a2_3 := a2_2.same s3
    refine ⟨(by show 2 ≤ sizeLine; decide), fun p4 h4 => ?_⟩
    obtain ⟨G4, e4⟩ : ∃ G, G = upd G3 p4 (.tup [.int 1, .int 1]) := ⟨_, rfl⟩
    rw [← e4]
    have s4 : Same G3 G4 := e4 ▸ Same.upd h4
    have M4 := M3.same s4
    have f4 : Fr m l l H G4 := e4 ▸ f3.junk h4
    have a4_4 : Mo G4 p4 := ⟨[1, 1], by rw [e4, upd_same]; rfl, by decide, by decide, by decide⟩
    have a1_4 := a1_3.same s4
    have a2_4 := a2_3.same s4
    have a3_4 := a3_3.same s4
    refine ⟨(by show 2 ≤ sizeLine; decide), fun p5 h5 => ?_⟩
    obtain ⟨G5, e5⟩ : ∃ G, G = upd G4 p5 (.tup [.int 1, .int 2]) := ⟨_, rfl⟩
    rw [← e5]
    have s5 : Same G4 G5 := e5 ▸ Same.upd h5
    have M5 := M4.same s5
    have f5 : Fr m l l H G5 := e5 ▸ f4.junk h5
    have a5_5 : Mo G5 p5 := ⟨[1, 2], by rw [e5, upd_same]; rfl, by decide, by decide, by decide⟩
    have a1_5 := a1_4.same s5
    have a2_5 := a2_4.same s5
    have a3_5 := a3_4.same s5
    have a4_5 := a4_4.same s5
    refine ⟨(by show 2 ≤ sizeLine; decide), fun p6 h6 => ?_⟩
    obtain ⟨G6, e6⟩ : ∃ G, G = upd G5 p6 (.tup [.int 2, .int 1]) := ⟨_, rfl⟩
    rw [← e6]
    have s6 : Same G5 G6 := e6 ▸ Same.upd h6
    have M6 := M5.same s6
    have f6 : Fr m l l H G6 := e6 ▸ f5.junk h6
    have a6_6 : Mo G6 p6 := ⟨[2, 1], by rw [e6, upd_same]; rfl, by decide, by decide, by decide⟩
    have a1_6 := a1_5.same s6
    have a2_6 := a2_5.same s6
    have a3_6 := a3_5.same s6
    have a4_6 := a4_5.same s6
    have a5_6 := a5_5.same s6
    refine ⟨(by show 2 ≤ sizeLine; decide), fun p7 h7 => ?_⟩
    obtain ⟨G7, e7⟩ : ∃ G, G = upd G6 p7 (.tup [.int 2, .int 2]) := ⟨_, rfl⟩
    rw [← e7]
    have s7 : Same G6 G7 := e7 ▸ Same.upd h7
    have M7 := M6.same s7
    have f7 : Fr m l l H G7 := e7 ▸ f6.junk h7
    have a7_7 : Mo G7 p7 := ⟨[2, 2], by rw [e7, upd_same]; rfl, by decide, by decide, by decide⟩
    have a1_7 := a1_6.same s7
    have a2_7 := a2_6.same s7
    have a3_7 := a3_6.same s7
    have a4_7 := a4_6.same s7
    have a5_7 := a5_6.same s7
    have a6_7 := a6_6.same s7
    refine ⟨(by show 2 ≤ sizeLine; decide), fun p8 h8 => ?_⟩
    obtain ⟨G8, e8⟩ : ∃ G, G = upd G7 p8 (.tup [.int 1, .int 3]) := ⟨_, rfl⟩
    rw [← e8]
    have s8 : Same G7 G8 := e8 ▸ Same.upd h8
    have M8 := M7.same s8
    have f8 : Fr m l l H G8 := e8 ▸ f7.junk h8
    have a8_8 : Mo G8 p8 := ⟨[1, 3], by rw [e8, upd_same]; rfl, by decide, by decide, by decide⟩
    have a1_8 := a1_7.same s8
    have a2_8 := a2_7.same s8
    have a3_8 := a3_7.same s8
    have a4_8 := a4_7.same s8
    have a5_8 := a5_7.same s8
    have a6_8 := a6_7.same s8
    have a7_8 := a7_7.same s8
    refine ⟨(by show 2 ≤ sizeLine; decide), fun p9 h9 => ?_⟩
    obtain ⟨G9, e9⟩ : ∃ G, G = upd G8 p9 (.tup [.int 3, .int 2]) := ⟨_, rfl⟩
    rw [← e9]
    have s9 : Same G8 G9 := e9 ▸ Same.upd h9
    have M9 := M8.same s9
    have f9 : Fr m l l H G9 := e9 ▸ f8.junk h9
    have a9_9 : Mo G9 p9 := ⟨[3, 2], by rw [e9, upd_same]; rfl, by decide, by decide, by decide⟩
    have a1_9 := a1_8.same s9
    have a2_9 := a2_8.same s9
    have a3_9 := a3_8.same s9
    have a4_9 := a4_8.same s9
    have a5_9 := a5_8.same s9
    have a6_9 := a6_8.same s9
    have a7_9 := a7_8.same s9
    have a8_9 := a8_8.same s9
    refine ⟨(by show 3 ≤ sizeLine; decide), fun p10 h10 => ?_⟩
    obtain ⟨G10, e10⟩ : ∃ G, G = upd G9 p10 (.tup [.int 1, .int 1, .int 1]) := ⟨_, rfl⟩
    rw [← e10]
    have s10 : Same G9 G10 := e10 ▸ Same.upd h10
    have M10 := M9.same s10
    have f10 : Fr m l l H G10 := e10 ▸ f9.junk h10
    have a10_10 : Mo G10 p10 := ⟨[1, 1, 1], by rw [e10, upd_same]; rfl, by decide, by decide, by decide⟩
    have a1_10 := a1_9.same s10
    have a2_10 := a2_9.same s10
    have a3_10 := a3_9.same s10
    have a4_10 := a4_9.same s10
    have a5_10 := a5_9.same s10
    have a6_10 := a6_9.same s10
    have a7_10 := a7_9.same s10
    have a8_10 := a8_9.same s10
    have a9_10 := a9_9.same s10
    refine ⟨(by show 3 ≤ sizeLine; decide), fun p11 h11 => ?_⟩
    obtain ⟨G11, e11⟩ : ∃ G, G = upd G10 p11 (.tup [.int 1, .int 2, .int 1]) := ⟨_, rfl⟩
    rw [← e11]
    have s11 : Same G10 G11 := e11 ▸ Same.upd h11
    have M11 := M10.same s11
    have f11 : Fr m l l H G11 := e11 ▸ f10.junk h11
    have a11_11 : Mo G11 p11 := ⟨[1, 2, 1], by rw [e11, upd_same]; rfl, by decide, by decide, by decide⟩
    have a1_11 := a1_10.same s11
    have a2_11 := a2_10.same s11
    have a3_11 := a3_10.same s11
    have a4_11 := a4_10.same s11
    have a5_11 := a5_10.same s11
    have a6_11 := a6_10.same s11
    have a7_11 := a7_10.same s11
    have a8_11 := a8_10.same s11
    have a9_11 := a9_10.same s11
    have a10_11 := a10_10.same s11
    refine ⟨(by show 3 ≤ sizeLine; decide), fun p12 h12 => ?_⟩
    obtain ⟨G12, e12⟩ : ∃ G, G = upd G11 p12 (.tup [.int 1, .int 1, .int 2]) := ⟨_, rfl⟩
    rw [← e12]
    have s12 : Same G11 G12 := e12 ▸ Same.upd h12
    have M12 := M11.same s12
    have f12 : Fr m l l H G12 := e12 ▸ f11.junk h12
    have a12_12 : Mo G12 p12 := ⟨[1, 1, 2], by rw [e12, upd_same]; rfl, by decide, by decide, by decide⟩
    have a1_12 := a1_11.same s12
    have a2_12 := a2_11.same s12
    have a3_12 := a3_11.same s12
    have a4_12 := a4_11.same s12
    have a5_12 := a5_11.same s12
    have a6_12 := a6_11.same s12
    have a7_12 := a7_11.same s12
    have a8_12 := a8_11.same s12
    have a9_12 := a9_11.same s12
    have a10_12 := a10_11.same s12
    have a11_12 := a11_11.same s12
    refine ⟨(by show 12 ≤ sizeLine; decide), fun D hD => ?_⟩
    obtain ⟨G, eG⟩ : ∃ G, G = upd G12 D (.lst [.ref p1, .ref p2, .ref p3, .ref p4, .ref p5, .ref p6, .ref p7, .ref p8, .ref p9, .ref p10, .ref p11, .ref p12]) := ⟨_, rfl⟩
    rw [← eG]
    have sG : Same G12 G := eG ▸ Same.upd hD
    have nD := M12.ne hD
    have MG := M12.same sG
    have fG : Fr m l l H G := eG ▸ f12.junk hD
    have gD : G D = some (.lst [.ref p1, .ref p2, .ref p3, .ref p4, .ref p5, .ref p6, .ref p7, .ref p8, .ref p9, .ref p10, .ref p11, .ref p12]) := by rw [eG, upd_same]
    have pick : ∀ r : Int, 0 ≤ r → r < 12 → ∃ a, atI ([.ref p1, .ref p2, .ref p3, .ref p4, .ref p5, .ref p6, .ref p7, .ref p8, .ref p9, .ref p10, .ref p11, .ref p12] : List V) r = some (.ref a) ∧ Mo G a := by
      intro r h0 h1
      obtain ⟨j, rfl⟩ : ∃ j : Nat, r = (j : Int) := ⟨r.toNat, by omega⟩
      have hj : j < 12 := by omega
      match j, hj with
      | 0, _ => exact ⟨p1, rfl, a1_12.same sG⟩
      | 1, _ => exact ⟨p2, rfl, a2_12.same sG⟩
      | 2, _ => exact ⟨p3, rfl, a3_12.same sG⟩
      | 3, _ => exact ⟨p4, rfl, a4_12.same sG⟩
      | 4, _ => exact ⟨p5, rfl, a5_12.same sG⟩
      | 5, _ => exact ⟨p6, rfl, a6_12.same sG⟩
      | 6, _ => exact ⟨p7, rfl, a7_12.same sG⟩
      | 7, _ => exact ⟨p8, rfl, a8_12.same sG⟩
      | 8, _ => exact ⟨p9, rfl, a9_12.same sG⟩
      | 9, _ => exact ⟨p10, rfl, a10_12.same sG⟩
      | 10, _ => exact ⟨p11, rfl, a11_12.same sG⟩
      | 11, _ => exact ⟨p12, rfl, a12_12.same sG⟩
    clear e1 s1 M1 f1 e2 s2 M2 f2 e3 s3 M3 f3 e4 s4 M4 f4 e5 s5 M5 f5 e6 s6 M6 f6 e7 s7 M7 f7 e8 s8 M8 f8 e9 s9 M9 f9 e10 s10 M10 f10 e11 s11 M11 f11 a1_1 a1_2 a2_2 a1_3 a2_3 a3_3 a1_4 a2_4 a3_4 a4_4 a1_5 a2_5 a3_5 a4_5 a5_5 a1_6 a2_6 a3_6 a4_6 a5_6 a6_6 a1_7 a2_7 a3_7 a4_7 a5_7 a6_7 a7_7 a1_8 a2_8 a3_8 a4_8 a5_8 a6_8 a7_8 a8_8 a1_9 a2_9 a3_9 a4_9 a5_9 a6_9 a7_9 a8_9 a9_9 a1_10 a2_10 a3_10 a4_10 a5_10 a6_10 a7_10 a8_10 a9_10 a10_10 a1_11 a2_11 a3_11 a4_11 a5_11 a6_11 a7_11 a8_11 a9_11 a10_11 a11_11 a1_12 a2_12 a3_12 a4_12 a5_12 a6_12 a7_12 a8_12 a9_12 a10_12 a11_12 a12_12
    refine ⟨_, rfl, _, rfl, m, l, n, 12, rfl, MG, by omega, by decide, by decide, fun r l1 H1 r0 r1 M1 f1' => ?_⟩
    obtain ⟨a, ha, mo⟩ := pick r r0 r1
    refine ⟨D, _, r, .ref a, rfl, rfl, SqL.of (f1'.keep D _ gD nD.1 nD.2), ha, ?_⟩
    obtain ⟨ms, hms, ml1, ml3, msok⟩ := mo
    have am : a ≠ m ∧ a ≠ l := by
      obtain ⟨c, cs, ls, z, dm, dc, dl, _⟩ := MG.ex
      exact ⟨ne_of hms dm (by intro q; cases q), ne_of hms dl (by intro q; cases q)⟩
    have ka : H1 a = some (.tup (ms.map V.int)) := f1'.keep a _ hms am.1 am.2
    have F1 : Fr m l l1 H H1 := fG.trans f1'
    clear pick gD eG sG MG fG hD e12 s12 M12 f12 h12 h11 h10 h9 h8 h7 h6 h5 h4 h3 h2 h1 ha f1' hms
    have lenA : ((ms.map V.int).length : Nat) = ms.length := List.length_map ..
    refine ⟨_, rfl, _, rfl, _, _, rfl, .inr ⟨_, SqT.of ka, rfl⟩, ?_⟩
    refine ⟨m, l1, n + 1, (ms.map V.int).length, rfl, M1, by omega, by omega, by omega, fun N ys l2 H2 hN gN yl yo nm nl M2 f2 => ?_⟩
    have F2 := F1.trans f2
    have ka2 : H2 a = some (.tup (ms.map V.int)) := f2.keep a _ ka am.1 (by
      obtain ⟨c, cs, ls, z, dm, dc, dl, _⟩ := M1.ex
      exact ne_of ka dl (by intro q; cases q))
    refine ⟨_, rfl, N, a, _, _, rfl, SqL.of gN, .inl (.inl ka2), fun D2 hD2 => ?_⟩
    have yl' : ys.length = ms.length := yl.trans lenA
    refine lc_it (walk_zm (xs := ys.map V.str) (ys := ms.map V.int) (n := ms.length) (by simp [yl'])) (fun i H3 => ∃ as : List Addr, as.length = i ∧ Prs H3 as ((ys.zip ms).take i) ∧ (∀ b ∈ as, b ≠ D2) ∧ H3 D2 = some (.lst (as.map V.ref)) ∧ Same H2 H3)
      ⟨[], rfl, .nil, (fun _ hb => nomatch hb), upd_same, Same.upd hD2⟩ (fun i H3 _ ⟨as, _, _, _, _, s3⟩ => ⟨SqL.of (s3 _ _ gN), SqT.of (s3 _ _ ka2)⟩) ?_ ?_
    · rintro i x H3 H4 hi ⟨as, al, pr, nd, gd, s3⟩ ⟨T, x1, x2, rfl, hT, rfl, e1, e2⟩
      have hy : i < ys.length := by omega
      have e1' : x1 = .str ys[i] := by simp [hy] at e1; exact e1.symm
      have e2' : x2 = .int ms[i] := by simp [hi] at e2; exact e2.symm
      subst e1' e2'
      refine ⟨T, _, rfl, .inl (.inl upd_same), rfl, _, _, rfl, _, _, rfl, rfl, rfl, tyes ?_⟩
      refine ⟨_, rfl, _, rfl, (by show 2 ≤ sizeLine; decide), fun p hp => ?_⟩
      have sT : Same H3 (upd H3 T (.tup [.str ys[i], .int ms[i]])) := Same.upd hT
      have sp : Same (upd H3 T (.tup [.str ys[i], .int ms[i]])) (upd (upd H3 T (.tup [.str ys[i], .int ms[i]])) p (.tup [.str ys[i], .int ms[i]])) := Same.upd hp
      have nDp : p ≠ D2 := fun e => by rw [e, sT _ _ gd] at hp; cases hp
      refine ⟨_, sp _ _ (sT _ _ gd), small1000 (by rw [List.length_map]; omega), as ++ [p], by simp [al], ?_, ?_, ?_, ?_⟩
      · rw [List.take_succ]
        have ez : (ys.zip ms)[i]? = some (ys[i], ms[i]) := by rw [List.getElem?_zip_eq_some]; exact ⟨List.getElem?_eq_getElem hy, List.getElem?_eq_getElem hi⟩
        rw [ez]
        refine Prs.snoc (Prs.same (fun b o hb e => ?_) pr) ?_
        · rw [upd_ne (nd b hb)]; exact sp _ _ (sT _ _ e)
        · rw [upd_ne nDp, upd_same]
      · intro b hb
        rcases List.mem_append.mp hb with hb | hb
        · exact nd b hb
        · rw [List.mem_singleton.mp hb]; exact nDp
      · rw [upd_same, List.map_append]; rfl
      · intro b o e
        have nb : b ≠ D2 := ne_of_none e hD2
        rw [upd_ne nb]; exact sp _ _ (sT _ _ (s3 _ _ e))
    · rintro H3 ⟨as, al, pr, nd, gd, s3⟩
      have lz : (ys.zip ms).length = ms.length := by simp [yl']
      rw [List.take_of_length_le (by omega)] at pr
      refine ⟨D2, _, rfl, .inl ⟨SqL.of gd, fun p hp => ?_⟩⟩
      have sp : Same H3 (upd H3 p (.tup (as.map V.ref))) := Same.upd hp
      refine q p as (ys.zip ms) l2 _ upd_same (pr.same fun b o _ e => sp b o e) (by omega) (by omega) (fun y hy => ?_) ((((M2.same s3).same sp)).mono (by omega)) ((F2.trail s3).trail sp)
      have := List.of_mem_zip hy
      exact ⟨yo _ this.1, msok _ this.2⟩
end
end Ms
namespace Ms
open PySem PySem.Spec PyProof.Rows L2
abbrev big : Nat := 10 ^ 30
def gdB (B a b : Nat) (d : PyData) : Bool := okD B d && (decide (d.weight ≤ a) && decide (d.depth ≤ b))
theorem gd_of {B a b : Nat} {d : PyData} (h : gdB B a b d = true) : Gd B a b d := by
  unfold gdB at h
  simp only [Bool.and_eq_true, decide_eq_true_eq] at h
  exact ⟨h.1, h.2.1, h.2.2⟩
end Ms
namespace Ms
open PySem PySem.Spec PyProof.Rows L2
/-! ### two rules over tuples -/
/-- t == (), whatever the items are -/
theorem op_eq_nil {X : Cx} (hu : X.A.units + 64 < cLine) : OpR X (compareOp .Eq) (fun x y H Q => ∃ a b xs, x = .ref a ∧ y = .ref b ∧ SqT X.K H a xs ∧ SqT X.K H b [] ∧ Q (.bl (xs.length == 0)) H) := by
  intro pins s σ H x y v u Q I rx ry h
  obtain ⟨a, b, xs, rfl, rfl, ha, hb, q⟩ := h
  cases rx
  cases ry
  obtain ⟨its, r1, p1, _⟩ := I.tuple ha
  obtain ⟨its2, r2, p2, _⟩ := I.tuple hb
  cases r2
  have hl := r1.length
  refine SeqAt.eq_tupleAt (e := fun _ => true) p1 p2 (by omega) (fun j h1 h2 => by simp at h2) ?_
  refine ⟨.bl _, H, I, rfl, ?_⟩
  have e : ((List.range (min its.toArray.size ([] : List Value).toArray.size)).all (fun _ => true) && its.toArray.size == ([] : List Value).toArray.size) = (xs.length == 0) := by
    rw [hl]; simp
  rw [e]; exact q
section
variable {prog : Program} {w : World} {A : Around} {E : Value → Shared → Prop} {s : Shared}
theorem places_rev (n : Nat) : Builtin.Slice.slicePlaces ((n : Int) - 1) (-1) (-1) = n := by
  unfold Builtin.Slice.slicePlaces
  have h1 : ¬ ((-1 : Int) > 0) := by decide
  have h2 : (- -1 : Int) = 1 := by decide
  simp only [h1, if_false, h2, Int.ediv_one]
  split <;> omega
theorem applied_rev {sl : Addr} {vs : Value} {n : Nat} {Q : Int × Int × Nat → Shared → Prop} (hs : s.heap.IsSliceOf sl .none .none vs) (ps : IsPart vs (some (-1)))
    (h : Q ((n : Int) - 1, -1, n) s) : wpAny (model prog w) A (Builtin.Slice.sliceApplied (.ref sl) (pure (n : Int))) Q E s := by
  obtain ⟨os, hos, hcs, hds⟩ := id hs
  unfold Builtin.Slice.sliceApplied Builtin.Slice.sliceFields
  refine wpAny_bind (wpAny_bind (wpAny_field hos hds (x := .none) rfl (wpAny_bind (wpAny_field hos hds (x := .none) rfl (wpAny_bind (wpAny_field hos hds (x := vs) rfl (wpAny_pure ?_)))))))
  refine wpAny_bind (HT.slicePart_ ps ?_)
  show wpAny _ _ (if ((-1 : Int) == 0) = true then _ else _) _ _ s
  rw [if_neg (by decide)]
  refine wpAny_bind (HT.slicePart_ .none (wpAny_bind (HT.slicePart_ .none (wpAny_bind (wpAny_pure ?_)))))
  show wpAny _ _ (pure ((n : Int) - 1, (-1 : Int), Builtin.Slice.slicePlaces ((n : Int) - 1) (-1) (-1))) _ _ s
  rw [places_rev]
  exact wpAny_pure h
theorem pick_rev (xs : Array Value) : ((List.range xs.size).filterMap fun (m : Nat) => xs[((xs.size : Int) - 1 + (m : Int) * (-1)).toNat]?).toArray = xs.toList.reverse.toArray := by
  have e : (List.range xs.size).filterMap (fun (m : Nat) => xs[((xs.size : Int) - 1 + (m : Int) * (-1)).toNat]?) = ((List.range xs.size).map fun k => xs.size - 1 - k).filterMap (xs[·]?) := by
    have g : ∀ (f : Nat → Option Value), (List.range xs.size).filterMap f = ((List.range xs.size).map f).filterMap id := fun f => by rw [List.filterMap_map]; rfl
    rw [List.filterMap_map, g, g]
    refine congrArg (List.filterMap id) (List.map_congr_left fun m hm => ?_)
    have := List.mem_range.mp hm
    have q : ((xs.size : Int) - 1 + (m : Int) * (-1)).toNat = xs.size - 1 - m := by omega
    show _ = xs[xs.size - 1 - m]?
    rw [q]
  rw [e, PySem.W.krv_range, List.filterMap_reverse, PySem.W.krv_all]
theorem getItem_tuple_rev {t sl : Addr} {items : Array Value} {vs : Value} {Q : Value → Shared → Prop} (ht : IsTup s.heap t items) (hs : s.heap.IsSliceOf sl .none .none vs) (ps : IsPart vs (some (-1)))
    (h : Q (.ref s.heap.objs.size) { s with heap := s.heap.push { cls := .type "tuple", data := .seq items.toList.reverse.toArray } })
    (hsz : items.size ≤ sizeLine) : wpAny (model prog w) A (getItem (.ref t) (.ref sl)) Q E s := by
  have hrev : sizeOk (.seq items.toList.reverse.toArray) := by
    show items.toList.reverse.toArray.size ≤ sizeLine
    simpa using hsz
  obtain ⟨os, hos, hcs, hds⟩ := id hs
  have hTs : s.TypeIs (.ref sl) "slice" := ⟨os, hos, hcs⟩
  have seq : ∀ {Q : Value → Shared → Prop}, wpAny (model prog w) A.in1 (Builtin.«tuple.__getitem__» ⟨[.ref t, .ref sl], []⟩) (fun fin s' => ∃ v, fin = .done (.ret v) ∧ Q v s') E s → wpAny (model prog w) A (getItem (.ref t) (.ref sl)) Q E s := fun {Q} run => by
    unfold getItem
    first | with_reducible apply wpAny_holding | skip
    first | refine wpAny_bind (wpAny_pure (wpAny_bind (wpAny_sequenceKey ht.typeIs (by decide) ?_))) | refine wpAny_bind (wpAny_sequenceKey ht.typeIs (by decide) ?_)
    exact wpAny_bind (wpAny_callSpecial?_slot (name := Str.ofString "__getitem__") ht.typeIs PyProof.Rows.slot_tuple_getitem (wpAny_call_entry PyProof.Rows.slot_tuple_getitem ht.typeIs PyProof.Rows.entry_tuple_getitem (wpAny_mono run (fun fin s1 ⟨v, e, q⟩ => ⟨v, e, wpAny_pure q⟩) (fun _ _ x => x)) (PyProof.Rows.args_tuple_getitem _ _)))
  refine seq ?_
  show wpAny _ _ (Builtin.Tuple.tupleItemsOf (.ref t) >>= _) _ _ s
  refine wpAny_bind (PyProof.Rows.tupleItemsOf_ ht ?_)
  refine wpAny_bind (wpAny_typeOf hTs ?_)
  rw [if_pos (by decide)]
  refine wpAny_bind (applied_rev hs ps ?_)
  have hno : ¬ ((((items.size : Int) - 1) == 0 && (-1 : Int) == 1 && items.size == items.size) = true) := by simp
  show wpAny _ _ (if (((items.size : Int) - 1) == 0 && (-1 : Int) == 1 && items.size == items.size) = true then _ else _) _ _ s
  rw [if_neg hno, pick_rev]
  first
    | exact wpAny_bind (m := Builtin.Tuple.tupleExact _) (wpAny_newObj_type (wpAny_pure ⟨_, rfl, h⟩) hrev)
    | exact wpAny_bind (m := Builtin.Tuple.tupleExact _) (wpAny_newObj_type (wpAny_bind (wpAny_pure (wpAny_pure ⟨_, rfl, h⟩))) hrev)
    | exact wpAny_bind (wpAny_bind (m := Builtin.Tuple.tupleExact _) (wpAny_newObj_type (wpAny_pure (wpAny_pure ⟨_, rfl, h⟩)) hrev))
    | exact wpAny_bind (wpAny_bind (m := Builtin.Tuple.tupleExact _) (wpAny_newObj_type (wpAny_pure ⟨_, rfl, h⟩) hrev))
end
/-- t[::-1] -/
def tRevT (K : PySem.W.Frag) (te : TE) : TE := fun σ H Q => te σ H fun x H1 => ∃ a xs, x = .ref a ∧ SqT K H1 a xs ∧ ∀ p, H1 p = none → Q (.ref p) (upd H1 p (.tup xs.reverse))
theorem pe_revT {X : Cx} {e : Expr} {te : TE} {k : Nat} {p1 p2 p3 pos : Pos} (he : PE X e te) : PE X (.Subscript e (.Slice none none (some (.UnaryOp .USub (.Constant (.int 1) k p1) p2)) p3) pos) (tRevT X.K te) := by
  refine ⟨fun pins s σ H Q I h => Subscript_ (thn (he.run pins s σ H _ I h) fun v s1 ⟨x, H1, I1, r1, q1⟩ => ?_)⟩
  obtain ⟨a, xs, ex, hx, q⟩ := q1
  subst ex
  cases r1
  have hst : PO X (some (.UnaryOp .USub (.Constant (.int 1) k p1) p2)) (tPart (tUn (rU fun i => .int (-i)) (tC (.int 1)))) := po_some (pe_un un_neg pe_int)
  refine wpAny_Slice ?_
  rw [evalPart_none]
  refine wpAny_pure ?_
  refine wpAny_pure ?_
  refine thn (hst.run pins s1 σ H1 (fun o H4 => o = some (-1) ∧ H4 = H1) I1 ⟨1, rfl, -1, rfl, rfl, rfl⟩) fun vs s4 ⟨o, H4, I4, ps, eo, e4⟩ => ?_
  subst eo e4
  have I5 : L2.Inv X pins σ H4 { s4 with heap := s4.heap.push { cls := .type "slice", data := .fields #[.none, .none, vs] } } := I4.kept (t' := s4.toks) fun b ob q => Heap.get?_push_of_some _ q
  obtain ⟨its, r, ht, hz⟩ := I5.tuple hx
  have hlen := r.length
  show wpAny (model X.prog X.w) X.A (subscriptTail e (.Slice none none (some (.UnaryOp .USub (.Constant (.int 1) k p1) p2)) p3) (.ref a) (.ref s4.heap.objs.size)) (EP X pins σ Q) X.xe { s4 with heap := s4.heap.push { cls := .type "slice", data := .fields #[.none, .none, vs] } }
  refine tail_any (ops := [.ref a, .ref s4.heap.objs.size]) ht.typeIs PyProof.Rows.slot_tuple_getitem.lookup ?_ (by with_unfolding_all rfl)
  refine getItem_tuple_rev ht (Heap.IsSliceOf.new _ .none .none vs) ps ?_ (by rw [List.size_toArray]; omega)
  refine ⟨.ref _, _, I5.laid (t' := s4.toks) (o := .tup xs.reverse) (fun b ob q => Heap.get?_push_of_some _ q) (Nat.le_refl _) ?_, rfl, q _ (I5.hok.fresh (Nat.le_refl _))⟩
  exact ⟨by rw [List.length_reverse]; exact hz, _, r.reverse, ⟨_, Heap.get?_push_size _ rfl, rfl, _, rfl⟩⟩
/-! ### the kinds of data -/
def tyD : PyData → String
  | .none => "NoneType"
  | .bool _ => "bool"
  | .int _ => "int"
  | .str _ => "str"
  | .list _ => "list"
  | .tuple _ => "tuple"
  | .dict _ => "dict"
theorem Dq.ty {K : PySem.W.Frag} {H : Hp} {m l : Addr} {v : V} {d : PyData} (h : Dq K H m l v d) : TyX K H v (.type (tyD d)) := by
  cases h with
  | non => exact .base .non
  | bl b => exact .base (.bl b)
  | int i => exact .base (.int i)
  | str x => exact .base (.str x)
  | lst e _ _ _ => exact .base (.lst e)
  | dct e _ _ => exact .base (.dK e)
  | tup e _ =>
    rcases e with (e | ⟨o, e⟩) | ⟨o, its, n, e, c, _⟩
    · exact .base (.tup e)
    · exact .fTuple e
    · exact .kTuple e c
theorem isi_str (K : PySem.W.Frag) (d : PyData) : PySem.W.kitOne K (.type (tyD d)) (.type "str") = some (match d with | .str _ => true | _ => false) := by cases d <;> rfl
theorem isi_int (K : PySem.W.Frag) (d : PyData) : PySem.W.kitOne K (.type (tyD d)) (.type "int") = some (match d with | .int _ | .bool _ => true | _ => false) := by cases d <;> rfl
theorem isi_bool (K : PySem.W.Frag) (d : PyData) : PySem.W.kitOne K (.type (tyD d)) (.type "bool") = some (match d with | .bool _ => true | _ => false) := by cases d <;> rfl
theorem isi_tup (K : PySem.W.Frag) (d : PyData) : PySem.W.kitOne K (.type (tyD d)) (.type "tuple") = some (match d with | .tuple _ => true | _ => false) := by cases d <;> rfl
end Ms
namespace Ms
open PySem PySem.Spec PyProof.Rows L2
/-! ### slices and joins of tuples, whole or not -/
theorem Same.seqT {K : PySem.W.Frag} {H H' : Hp} {a : Addr} {xs : List V} (e : Same H H') (h : SqT K H a xs) : SqT K H' a xs := by
  rcases h with (h | ⟨o, h⟩) | h
  · exact .inl (.inl (e _ _ h))
  · exact .inl (.inr ⟨o, e _ _ h⟩)
  · exact .inr h
theorem cutV_whole {xs : List V} {lo hi : Option Int} (h : HT.sIx xs.length 0 lo = 0 ∧ HT.sIx xs.length xs.length hi = xs.length) : cutV xs lo hi = xs := by
  unfold cutV
  rw [h.1, h.2, List.drop_zero, Nat.sub_zero, List.take_length]
theorem slA_any {K : PySem.W.Frag} {H : Hp} {a : Addr} {xs : List V} {lo hi : Option Int} {Q : VK} (h : SqT K H a xs) (q : ∀ (p : Addr) (H' : Hp), Same H H' → SqT K H' p (cutV xs lo hi) → Q (.ref p) H') : rSlA K (.ref a) lo hi H Q :=
  ⟨a, xs, rfl, h, fun w => q a H (fun _ _ e => e) (by rw [cutV_whole w]; exact h), fun _ p hp => q p _ (Same.upd hp) (.inl (.inl upd_same))⟩
theorem catA_any {K : PySem.W.Frag} {H : Hp} {a b : Addr} {xs ys : List V} {Q : VK} (h : SqT K H a xs) (h2 : SqT K H b ys) (hl : xs.length + ys.length ≤ sizeLine) (q : ∀ (p : Addr) (H' : Hp), Same H H' → SqT K H' p (xs ++ ys) → Q (.ref p) H') : rCatA K (.ref a) (.ref b) H Q :=
  ⟨a, b, xs, ys, rfl, rfl, h, h2, hl, fun e => q b H (fun _ _ e => e) (by rw [e]; exact h2), fun _ e => q a H (fun _ _ e => e) (by rw [e, List.append_nil]; exact h), fun _ _ p hp => q p _ (Same.upd hp) (.inl (.inl upd_same))⟩
theorem cut_to {xs : List V} {i : Nat} (h : i ≤ xs.length) : cutV xs none (some (i : Int)) = xs.take i := by
  unfold cutV
  rw [HT.sIx_nat, HT.sIx_none, List.drop_zero, Nat.sub_zero, Nat.min_eq_left h]
theorem cut_from {xs : List V} {i : Nat} (h : i ≤ xs.length) : cutV xs (some (i : Int)) none = xs.drop i := by
  unfold cutV
  rw [HT.sIx_nat, HT.sIx_none, Nat.min_eq_left h]
  exact List.take_of_length_le (by simp)
theorem cut_one {xs : List V} {i : Nat} (h : i < xs.length) : cutV xs (some (i : Int)) (some ((i : Int) + 1)) = (xs.drop i).take 1 := by
  have e : ((i : Int) + 1) = ((i + 1 : Nat) : Int) := by omega
  unfold cutV
  rw [e, HT.sIx_nat, HT.sIx_nat, Nat.min_eq_left (by omega), Nat.min_eq_left (by omega)]
  have : i + 1 - i = 1 := by omega
  rw [this]
theorem cut_from1 {xs : List V} {i : Nat} (h : i < xs.length) : cutV xs (some ((i : Int) + 1)) none = xs.drop (i + 1) := by
  have e : ((i : Int) + 1) = ((i + 1 : Nat) : Int) := by omega
  rw [e]; exact cut_from h
/-! ### lists of data -/
section
variable {K : PySem.W.Frag} {H : Hp} {m l : Addr}
theorem DqAll.app {vs ws : List V} : ∀ {ds es : List PyData}, DqAll K H m l vs ds → DqAll K H m l ws es → DqAll K H m l (vs ++ ws) (ds ++ es) := by
  intro ds
  induction ds generalizing vs with
  | nil => intro es h1 h2; cases h1; exact h2
  | cons d ds ih => intro es h1 h2; cases h1 with | cons a b => exact .cons a (ih b h2)
theorem DqAll.len {vs : List V} : ∀ {ds : List PyData}, DqAll K H m l vs ds → vs.length = ds.length := by
  intro ds
  induction ds generalizing vs with
  | nil => intro h; cases h; rfl
  | cons d ds ih => intro h; cases h with | cons a b => simp [ih b]
theorem DqAll.drop {vs : List V} : ∀ {ds : List PyData} (i : Nat), DqAll K H m l vs ds → DqAll K H m l (vs.drop i) (ds.drop i) := by
  intro ds
  induction ds generalizing vs with
  | nil => intro i h; cases h; simp; exact .nil
  | cons d ds ih =>
    intro i h
    cases h with
    | cons a b =>
      cases i with
      | zero => exact .cons a b
      | succ i => simpa using ih i b
theorem DqAll.take {vs : List V} : ∀ {ds : List PyData} (i : Nat), DqAll K H m l vs ds → DqAll K H m l (vs.take i) (ds.take i) := by
  intro ds
  induction ds generalizing vs with
  | nil => intro i h; cases h; simp; exact .nil
  | cons d ds ih =>
    intro i h
    cases h with
    | cons a b =>
      cases i with
      | zero => simp; exact .nil
      | succ i => simpa using DqAll.cons a (ih i b)
theorem DqAll.rev {vs : List V} : ∀ {ds : List PyData}, DqAll K H m l vs ds → DqAll K H m l vs.reverse ds.reverse := by
  intro ds
  induction ds generalizing vs with
  | nil => intro h; cases h; exact .nil
  | cons d ds ih => intro h; cases h with | cons a b => rw [List.reverse_cons, List.reverse_cons]; exact (ih b).app (.cons a .nil)
end
theorem wA_app : ∀ (xs ys : List PyData), PyData.weightAll (xs ++ ys) = PyData.weightAll xs + PyData.weightAll ys
  | [], ys => by simp [PyData.weightAll]
  | x :: xs, ys => by simp only [List.cons_append, PyData.weightAll, wA_app xs ys]; omega
theorem wA_rev : ∀ (xs : List PyData), PyData.weightAll xs.reverse = PyData.weightAll xs
  | [] => rfl
  | x :: xs => by rw [List.reverse_cons, wA_app, wA_rev xs]; simp only [PyData.weightAll]; omega
theorem wA_split (xs : List PyData) (i : Nat) : PyData.weightAll (xs.take i) + PyData.weightAll (xs.drop i) = PyData.weightAll xs := by
  rw [← wA_app, List.take_append_drop]
theorem wA_len : ∀ (xs : List PyData), xs.length ≤ PyData.weightAll xs
  | [] => Nat.le_refl _
  | x :: xs => by simp only [List.length_cons, PyData.weightAll]; have := wA_len xs; omega
theorem dA_iff {c : Nat} : ∀ {xs : List PyData}, PyData.depthAll xs ≤ c ↔ ∀ x ∈ xs, x.depth ≤ c
  | [] => by simp [PyData.depthAll]
  | x :: xs => by simp only [PyData.depthAll, List.mem_cons, forall_eq_or_imp]; rw [Nat.max_le, dA_iff (xs := xs)]
/-- a list of good data -/
structure Gl' (B w c : Nat) (ds : List PyData) : Prop where
  ok : ∀ d ∈ ds, okD B d = true
  wt : PyData.weightAll ds ≤ w
  dp : ∀ d ∈ ds, d.depth ≤ c
theorem Gd.tup {B a b : Nat} {ds : List PyData} (g : Gl' B a b ds) : Gd B a (b + 1) (.tuple ds) :=
  ⟨by simp only [okD]; exact okAll_iff.mpr g.ok, by simp only [PyData.weight]; exact g.wt, by simp only [PyData.depth]; exact Nat.succ_le_succ (dA_iff.mpr g.dp)⟩
theorem Gd.lst {B a b : Nat} {ds : List PyData} (g : Gl' B a b ds) : Gd B a (b + 1) (.list ds) :=
  ⟨by simp only [okD]; exact okAll_iff.mpr g.ok, by simp only [PyData.weight]; exact g.wt, by simp only [PyData.depth]; exact Nat.succ_le_succ (dA_iff.mpr g.dp)⟩
theorem Gd.untup {B a b : Nat} {ds : List PyData} (g : Gd B a b (.tuple ds)) : ∃ c, b = c + 1 ∧ Gl' B a c ds := by
  obtain ⟨h1, h2, h3⟩ := g
  simp only [okD] at h1
  simp only [PyData.weight] at h2
  simp only [PyData.depth] at h3
  obtain ⟨c, rfl⟩ : ∃ c, b = c + 1 := ⟨b - 1, by omega⟩
  exact ⟨c, rfl, okAll_iff.mp h1, h2, dA_iff.mp (by omega)⟩
section
variable {B a c : Nat} {ds es : List PyData}
theorem Gl'.mono {B' a' c' : Nat} (g : Gl' B a c ds) (h1 : B ≤ B') (h2 : a ≤ a') (h3 : c ≤ c') : Gl' B' a' c' ds :=
  ⟨fun d h => okD_mono h1 d (g.ok d h), Nat.le_trans g.wt h2, fun d h => Nat.le_trans (g.dp d h) h3⟩
theorem Gl'.app {a2 : Nat} (g : Gl' B a c ds) (h : Gl' B a2 c es) : Gl' B (a + a2) c (ds ++ es) :=
  ⟨fun d q => (List.mem_append.mp q).elim (g.ok d) (h.ok d), by rw [wA_app]; have := g.wt; have := h.wt; omega, fun d q => (List.mem_append.mp q).elim (g.dp d) (h.dp d)⟩
theorem Gl'.tk (g : Gl' B a c ds) (i : Nat) : Gl' B (PyData.weightAll (ds.take i)) c (ds.take i) := ⟨fun d q => g.ok d (List.mem_of_mem_take q), Nat.le_refl _, fun d q => g.dp d (List.mem_of_mem_take q)⟩
theorem Gl'.dr (g : Gl' B a c ds) (i : Nat) : Gl' B (PyData.weightAll (ds.drop i)) c (ds.drop i) := ⟨fun d q => g.ok d (List.mem_of_mem_drop q), Nat.le_refl _, fun d q => g.dp d (List.mem_of_mem_drop q)⟩
theorem Gl'.rv (g : Gl' B a c ds) : Gl' B a c ds.reverse := ⟨fun d q => g.ok d (List.mem_reverse.mp q), by rw [wA_rev]; exact g.wt, fun d q => g.dp d (List.mem_reverse.mp q)⟩
theorem Gl'.one {d : PyData} {w : Nat} (g : Gd B w c d) : Gl' B (w + 1) c [d] :=
  ⟨fun x h => by rw [List.mem_singleton.mp h]; exact g.ok, by simp only [PyData.weightAll]; have := g.wt; omega, fun x h => by rw [List.mem_singleton.mp h]; exact g.dp⟩
theorem Gl'.at (g : Gl' B a c ds) {i : Nat} {d : PyData} (h : ds[i]? = some d) : Gd B d.weight c d := ⟨g.ok d (List.mem_of_getElem? h), Nat.le_refl _, g.dp d (List.mem_of_getElem? h)⟩
theorem wA_at {i : Nat} {d : PyData} (h : ds[i]? = some d) : PyData.weightAll (ds.take i) + (d.weight + 1) + PyData.weightAll (ds.drop (i + 1)) = PyData.weightAll ds := by
  have hi : i < ds.length := (List.getElem?_eq_some_iff.mp h).1
  have e : ds[i] = d := (List.getElem?_eq_some_iff.mp h).2
  rw [← wA_split ds i, List.drop_eq_getElem_cons hi, e]
  simp only [PyData.weightAll]
  omega
end
/-! ### texts and numbers -/
theorem Gd.str {B a : Nat} {z : Str} (h : sOk a z) : Gd B a 0 (.str z) := ⟨h.okd, by simp only [PyData.weight]; exact h.1, Nat.le_refl _⟩
theorem Gd.unstr {B a b : Nat} {z : Str} (g : Gd B a b (.str z)) : sOk a z := by
  obtain ⟨h1, h2, _⟩ := g
  simp only [okD, List.all_eq_true, decide_eq_true_eq] at h1
  simp only [PyData.weight] at h2
  exact ⟨h2, h1⟩
theorem mul2 (z : Str) : sOk (2 * z.length) (Txt.mul z 2) ∨ ¬ sOk z.length z := by
  by_cases h : sOk z.length z
  · refine .inl ?_
    unfold Txt.mul
    rw [if_neg (by decide)]
    by_cases e : ((2 : Int) == 1 || z.length == 0) = true
    · rw [if_pos e]; exact h.mono (by omega)
    · rw [if_neg e]
      have q : ((List.replicate (2 : Int).toNat z.cps).foldl (· ++ ·) #[] : Array Nat) = z.cps ++ z.cps := by
        show (#[] ++ z.cps) ++ z.cps = _
        rw [Array.empty_append]
      rw [q]
      have := h.app h
      refine this.mono (by omega)
  · exact .inr h
theorem mul2_ok {a : Nat} {z : Str} (h : sOk a z) : sOk (2 * a) (Txt.mul z 2) := by
  rcases mul2 z with q | q
  · exact q.mono (by have := h.1; omega)
  · exact absurd ⟨Nat.le_refl _, h.2⟩ q
theorem wt_int {i : Int} (h : i.natAbs ≤ 10 ^ 31) : PyData.weight (.int i) ≤ 104 := by
  simp only [PyData.weight]
  split
  · decide
  · rename_i z
    have h1 : i.natAbs < 2 ^ 103 := by
      have e : (10 : Nat) ^ 31 < 2 ^ 103 := by decide
      omega
    have nz : i.natAbs ≠ 0 := by
      intro e
      exact z (by simp; omega)
    have := (Nat.log2_lt nz).mpr h1
    omega
theorem Gd.int {B : Nat} {i : Int} (h : i.natAbs ≤ B) (hB : B ≤ 10 ^ 31) : Gd B 104 0 (.int i) :=
  ⟨by simp only [okD, decide_eq_true_eq]; exact h, wt_int (by omega), Nat.le_refl _⟩
theorem Gd.unint {B a b : Nat} {i : Int} (g : Gd B a b (.int i)) : i.natAbs ≤ B := by
  have := g.ok
  simpa only [okD, decide_eq_true_eq] using this
theorem ite_b {c : Bool} {A B : Prop} (h1 : c = true → A) (h2 : c = false → B) : if c = true then A else B := by
  cases c
  · rw [if_neg Bool.false_ne_true]; exact h2 rfl
  · rw [if_pos rfl]; exact h1 rfl
theorem noPart {σ : L2.St} {H : Hp} {Q : Option Int → Hp → Prop} (h : Q none H) : tNoPart σ H Q := h
end Ms
namespace Ms
open PySem PySem.Spec PyProof.Rows L2
def isWhole (d : PyData) (lo hi : Int) : Bool := match d with | .int i => decide (lo ≤ i) && decide (i ≤ hi) | _ => false
def isName (d : PyData) : Bool := match d with | .str z => (decide (1 ≤ z.length) && decide (z.length ≤ 8)) && z.cps.toList.all fun c => decide (c ∈ alpha.cps.toList) | _ => false
theorem lay_strs : ∀ ys : List Str, (∀ y ∈ ys, PyData.canLay0 (.str y) = true) → PyData.canLayAll0 (ys.map PyData.str) = true
  | [], _ => rfl
  | y :: ys, h => by
    show (PyData.canLay0 (.str y) && PyData.canLayAll0 (ys.map PyData.str)) = true
    rw [lay_strs ys (fun x hx => h x (List.mem_cons_of_mem _ hx)), h y (List.mem_cons_self ..)]; rfl
theorem depth_strs : ∀ ys : List Str, PyData.depthAll (ys.map PyData.str) = 0
  | [] => rfl
  | y :: ys => by
    show max (PyData.depth (.str y)) (PyData.depthAll (ys.map PyData.str)) = 0
    rw [depth_strs ys]; rfl
theorem shaped_strs (ys : List Str) (h : ∀ y ∈ ys, PyData.canLay0 (.str y) = true) : SeqAt.shaped (.list (ys.map PyData.str)) = true := by
  show (PyData.canLayAll0 (ys.map PyData.str) && decide (PyData.depthAll (ys.map PyData.str) + 1 ≤ 64)) = true
  rw [lay_strs ys h, depth_strs]; rfl
theorem dpAll_strs {K : PySem.W.Frag} {H : Hp} : ∀ ys : List Str, DpAll K H (ys.map V.str) (ys.map PyData.str)
  | [] => .nil
  | y :: ys => .cons (.str y) (dpAll_strs ys)
structure TxtQ (mg : Str → Option Value) : Prop where
  isi : mg "isinstance" = none
  int : mg "int" = none
  bool : mg "bool" = none
  str : mg "str" = none
  len : mg "len" = none
def spWhole (K : PySem.W.Frag) : Sp := fun vs H Q _ => ∃ (m l : Addr) (v : V) (d : PyData) (lo hi : Int), vs = [v, .int lo, .int hi] ∧ Dq K H m l v d ∧ Q (.bl (isWhole d lo hi)) H
def spName (K : PySem.W.Frag) : Sp := fun vs H Q _ => ∃ (m l : Addr) (v : V) (d : PyData), vs = [v] ∧ Dq K H m l v d ∧ (∀ z, d = .str z → sOk 100000 z) ∧ ∀ H', Same H H' → Q (.bl (isName d)) H'
end Ms
namespace Ms
open PySem PySem.Spec PyProof.Rows L2
/-! ### enumerate(tuple) over KE's draws -/
def ItET (K : PySem.W.Frag) (a : Addr) : It :=
  ⟨fun i H => ∃ xs : List V, SqT K H a xs ∧ i < xs.length,
    fun i H v H' => ∃ T x, v = .ref T ∧ H T = none ∧ H' = upd H T (.tup [.int (i : Nat), x]) ∧ ∀ xs, SqT K H a xs → xs[i]? = some x,
    fun i H => ∃ xs : List V, SqT K H a xs ∧ i = xs.length⟩
theorem walk_et {K : PySem.W.Frag} {a : Addr} {xs : List V} : Walk (ItET K a) xs.length (fun H => SqT K H a xs) (YPair (fun i => some (.int (i : Nat))) (fun i => xs[i]?)) := by
  refine ⟨fun i _ hi q => ⟨xs, q, hi⟩, fun _ q => ⟨xs, q, rfl⟩, fun i H v H' _ q y => ?_⟩
  obtain ⟨T, x, h1, h2, h3, h4⟩ := y
  exact ⟨T, .int (i : Nat), x, h1, h2, h3, rfl, h4 xs q⟩
abbrev EtSt (a e it : Addr) : Nat → Heap → Prop := fun i h => (∃ old, IsEnum h e it ((0 : Int) + (i : Int)) old) ∧ h.IsTupleIter it a i
theorem turn_et {P : Program} {w : World} {K : PySem.W.Frag} {elts : List Expr} {kk : Nat} {tpos : Pos} {a e it : Addr} (na : a ≠ it) (ne : e ≠ it) (nea : e ≠ a) :
    Turn P w K (.Tuple elts kk tpos) (ItET K a) [e, it] e (EtSt a e it) where
  mem := by simp
  obj := fun i h st b hb => by
    obtain ⟨⟨old, he⟩, ⟨o, ho, hc, hd⟩⟩ := st
    have e' : b = e ∨ b = it := by simpa using hb
    rcases e' with rfl | rfl
    · exact ⟨_, he, fun v q => nomatch q⟩
    · exact ⟨o, ho, fun v q => by rw [hd] at q; cases q⟩
  keep := fun i h h' st k => by
    obtain ⟨⟨old, he⟩, hi⟩ := st
    exact ⟨⟨old, k e (by simp) _ he⟩, hi.at fun o q => k it (by simp) o q⟩
  item := by
    intro X hP hw hK hc i pins s σ H E I hf st hg
    subst hP hw hK
    obtain ⟨xs, hq, hi⟩ := hg
    obtain ⟨its, rv, p, _⟩ := I.tuple hq
    have l1 := rv.length
    have hh : X.A.in1.handled = none := I.ok.hd hc
    have W := GoesN.enumFrom (elts := elts) (x1 := kk) (pos := tpos) 0 (Draws.tuple (prog := X.prog) (w := X.w) hh it a na its.toArray) e ne (by simp [ne, nea]) (by simp)
    have lv : ∀ c ∈ [e, it], c < s.heap.objs.size := fun c hc => by
      obtain ⟨⟨old, he⟩, ⟨o, ho, _⟩⟩ := st
      have e' : c = e ∨ c = it := by simpa using hc
      rcases e' with rfl | rfl
      · exact Heap.lt_size he
      · exact Heap.lt_size ho
    refine W.goes i s (fun u s2 => ∃ x H', L2.Inv X pins σ H' s2 ∧ RelV x u ∧ (ItET X.K a).yld i H x H' ∧ EtSt a e it (i + 1) s2.heap ∧ ∀ b ∈ [e, it], H' b = none) E (by simp; omega) ⟨st.1, st.2, p⟩ fun v h' tk Y st' hk htk => ?_
    obtain ⟨T, t, x, rfl, hT, hx, hI⟩ := Y
    have hxx : xs[i]? = some xs[i] := List.getElem?_eq_getElem hi
    obtain ⟨u, hu, ru⟩ := rv.get hxx
    have ex : x = u := by simp [hu] at hx; exact hx.symm
    subst ex
    have new : ObjOk X.prog X.w (upd H T (.tup [.int (i : Nat), xs[i]])) h' T (.tup [.int (i : Nat), xs[i]]) :=
      ⟨(by show 2 ≤ sizeLine; decide), [.int (0 + (i : Int)) t, x], .cons ⟨t, by rw [Int.zero_add]⟩ (.cons ru .nil), hI⟩
    have I1 : L2.Inv X pins σ (upd H T (.tup [.int (i : Nat), xs[i]])) { s with heap := h', toks := tk } := I.turnedNew (t' := tk) (ch := [e, it]) hk hf hT new
    refine ⟨.ref T, _, I1, rfl, ⟨T, xs[i], rfl, I.hok.fresh hT, rfl, fun ys hy => by rw [I.tuple_inj hy hq]; exact hxx⟩, ⟨st'.1, st'.2.1⟩, fun b hb => ?_⟩
    rw [upd_ne (Nat.ne_of_lt (Nat.lt_of_lt_of_le (lv b hb) hT))]
    exact (hf b hb).1
  done := by
    intro X hP hw hK hc i pins s σ H E I hf st hg
    subst hP hw hK
    obtain ⟨xs, hq, hi⟩ := hg
    obtain ⟨its, rv, p, _⟩ := I.tuple hq
    have l1 := rv.length
    have hh : X.A.in1.handled = none := I.ok.hd hc
    have W := GoesN.enumFrom (elts := elts) (x1 := kk) (pos := tpos) 0 (Draws.tuple (prog := X.prog) (w := X.w) hh it a na its.toArray) e ne (by simp [ne, nea]) (by simp)
    have ei : i = its.toArray.size := by simp; omega
    rw [ei] at st
    exact W.stops s (fun s1 => L2.Inv X pins σ H s1) E ⟨st.1, st.2, p⟩ fun h' tk hk htk => I.turnedL (t' := tk) (ch := [e, it]) hk hf
  self := fun A i s Q E st h => let ⟨⟨_, he⟩, _⟩ := st; wpAny_pyIter_enum he h
def iET (K : PySem.W.Frag) (ta : TA) : TI := fun σ H R => ta σ H fun vs H1 => ∃ a xs, vs = [.ref a] ∧ SqT K H1 a xs ∧ R (ItET K a) H1
set_option maxHeartbeats 1000000 in
/-- enumerate(v), v told by how its iterator begins -/
theorem meets_en1 {v : Value} {o : Obj} {HP : Heap → Prop} (B : Begins v o HP) :
    Meets (Builtin.«enumerate.__new__» ⟨[.type "enumerate", v], []⟩) (fun _ R s => HP s.heap ∧
      R (.ok (.ret (.ref (s.heap.push o).objs.size))) { s with heap := (s.heap.push o).push { cls := .type "enumerate", data := .fields #[.none, .bool false, .ref s.heap.objs.size, rawInt 0, .none, .none] } }) :=
  .of_wp fun prog w A R s h => by
    obtain ⟨hp, g, d, tk, os⟩ := s
    obtain ⟨h1, h⟩ := h
    have hsub := sub_enumerate
    have begins : ∀ {A' : Around} {E : Value → Shared → Prop} {Q : Value → Shared → Prop}, Q (.ref hp.objs.size) ⟨hp.push o, g, d, tk, os⟩ → wpAny (model prog w) A' (pyIter v) Q E ⟨hp, g, d, tk, os⟩ :=
      fun q => B.iter prog w _ _ ⟨hp, g, d, tk, os⟩ _ h1 q
    wp_walk using begins
    refine wpAny_stack_any fun st => wpAny_pure ?_
    split
    · rename_i c _ _ _ _ _
      cases (c == Value.type "enumerate") <;> (wp_walk using begins; exact ⟨_, rfl, h⟩)
    · wp_walk using begins
      exact ⟨_, rfl, h⟩
theorem pi_et {X : Cx} {e : Expr} {ta : TA} {p pos tpos : Pos} {elts : List Expr} {kk : Nat} (hg : Gl X "enumerate") (hm : X.mg "enumerate" = none) (ha : PA X [e] ta) (hs : starEach [e] X.env = [(false, eval e X.env)] := by rfl) :
    PI X (.Tuple elts kk tpos) (.Call (.Name "enumerate" p) [e] [] pos) (iET X.K ta) := by
  refine ⟨fun pins s σ H R I h => Call_ (ld_blt I hg hm boot_enumerate (PyProof.Rows.callWith_type1 (thn (ha.run pos pins s σ H _ I h) fun us s1 ⟨vs, H1, I1, r1, q1⟩ => ?_) hs rfl))⟩
  obtain ⟨a, xs, ex, hq, q⟩ := q1
  subst ex
  obtain ⟨u, rfl, ru⟩ := vals1 r1
  cases ru
  obtain ⟨its, rv, p1, _⟩ := I1.tuple hq
  obtain ⟨oa, hoa, _⟩ := id p1
  have la : a < s1.heap.objs.size := Heap.lt_size hoa
  refine callType_new F.called_enumerate (by decide) (F.typeCall_enumerate_1 _) (F.newCall_enumerate_1 _) (fun obj => F.args_object_init_2 obj _) F.entry_enumerate_new (meets_en1 (begins_tuple a its.toArray)) ⟨p1, ?_⟩
  obtain ⟨oi, hoi⟩ : ∃ oi : Obj, oi = { cls := .type "tuple_iterator", data := .fields #[.ref a, .int 0 0] } := ⟨_, rfl⟩
  obtain ⟨oe, hoe⟩ : ∃ oe : Obj, oe = { cls := .type "enumerate", data := .fields #[.none, .bool false, .ref s1.heap.objs.size, rawInt 0, .none, .none] } := ⟨_, rfl⟩
  rw [← hoi, ← hoe]
  have hz : (s1.heap.push oi).objs.size = s1.heap.objs.size + 1 := Heap.size_push ..
  have ge : ((s1.heap.push oi).push oe).get? (s1.heap.objs.size + 1) = some oe := by
    have := Heap.get?_push_size (s1.heap.push oi) (o := oe) (by rw [hoe]; rfl)
    rw [hz] at this; exact this
  have gi : ((s1.heap.push oi).push oe).get? s1.heap.objs.size = some oi := Heap.get?_push_of_some _ (Heap.get?_push_size _ (by rw [hoi]; rfl))
  have hk : ∀ b o, s1.heap.get? b = some o → ((s1.heap.push oi).push oe).get? b = some o := fun b o x => Heap.get?_push_of_some _ (Heap.get?_push_of_some _ x)
  show _ ∧ _
  rw [hz]
  have he : IsEnum ((s1.heap.push oi).push oe) (s1.heap.objs.size + 1) s1.heap.objs.size 0 .none := ge.trans (by rw [hoe])
  refine ⟨⟨_, ge, by rw [hoe]⟩, wpAny_pyIter_enum he ?_⟩
  have I2 : L2.Inv X pins σ H1 { s1 with heap := (s1.heap.push oi).push oe } := I1.kept (t' := s1.toks) hk
  have n1 : s1.heap.objs.size + 1 ≠ s1.heap.objs.size := Nat.succ_ne_self _
  have n2 : s1.heap.objs.size + 1 ≠ a := Nat.ne_of_gt (Nat.lt_succ_of_lt la)
  refine ⟨s1.heap.objs.size + 1, [s1.heap.objs.size + 1, s1.heap.objs.size], EtSt a (s1.heap.objs.size + 1) s1.heap.objs.size, ItET X.K a, H1, rfl, I2, turn_et (Nat.ne_of_lt la) n1 n2, ⟨⟨.none, he⟩, ⟨oi, gi, by rw [hoi], by rw [hoi]; rfl⟩⟩, fun c hc => ?_, q⟩
  have e' : c = s1.heap.objs.size + 1 ∨ c = s1.heap.objs.size := by simpa using hc
  have hle : s1.heap.objs.size ≤ c := by
    rcases e' with e | e
    · rw [e]; exact Nat.le_succ _
    · rw [e]; exact Nat.le_refl _
  exact I1.fpOk hle (I1.hok.fresh hle)
end Ms
namespace Ms
open PySem PySem.Spec PyProof.Rows L2
/-! ### _law_due -/
/-- a good pair -/
def oneD : PyData → Option (Str × Int)
  | .tuple [.str z, .int c] => if (isName (.str z) && isWhole (.int c) 1 3) = true then some (z, c) else none
  | _ => none
def dueGo : Nat → List Str → Int → List PyData → Sum Nat Int
  | _, _, many, [] => .inr many
  | p, seen, many, d :: ds => match oneD d with
    | none => .inl p
    | some (z, c) => if z ∈ seen then .inl p else dueGo (p + 1) (seen ++ [z]) (many * (c + 1)) ds
def bad (d : PyData) : PyData := .tuple [.str "settings", d]
def dueD (d : PyData) : PyData := match d with
  | .tuple ds => if 1 ≤ ds.length ∧ ds.length ≤ 3 then (match dueGo 0 [] 1 ds with | .inl p => bad (.int p) | .inr many => if many ≤ 12 then .list [d] else bad (.str "many")) else bad .none
  | _ => bad .none
theorem oneD_name {d0 d1 : PyData} (h : isName d0 = false) : oneD (.tuple [d0, d1]) = none := by
  cases d0 <;> cases d1 <;> first | rfl | (simp only [oneD]; rw [h]; rfl)
theorem oneD_whole {d0 d1 : PyData} (h : isWhole d1 1 3 = false) : oneD (.tuple [d0, d1]) = none := by
  cases d0 <;> cases d1 <;> first | rfl | (simp only [oneD]; rw [h, Bool.and_false]; rfl)
theorem oneD_len {es : List PyData} (h : es.length ≠ 2) : oneD (.tuple es) = none := by
  match es, h with
  | [], _ => rfl
  | [x], _ => cases x <;> rfl
  | [_, _], h => exact absurd rfl h
  | x :: y :: z :: r, _ => cases x <;> cases y <;> rfl
theorem oneD_ok {d0 d1 : PyData} (h : isName d0 = true) (h1 : isWhole d1 1 3 = true) : ∃ z c, d0 = .str z ∧ d1 = .int c ∧ 1 ≤ c ∧ c ≤ 3 ∧ oneD (.tuple [d0, d1]) = some (z, c) := by
  cases d0 with
  | str z =>
    cases d1 with
    | int c =>
      refine ⟨z, c, rfl, rfl, ?_, ?_, by simp only [oneD]; rw [h, h1]; rfl⟩
      · have := (Bool.and_eq_true _ _ ▸ h1 : _ ∧ _).1
        exact of_decide_eq_true this
      · have := (Bool.and_eq_true _ _ ▸ h1 : _ ∧ _).2
        exact of_decide_eq_true this
    | _ => exact absurd h1 (by simp [isWhole])
  | _ => exact absurd h (by simp [isName])
theorem inV_str (z : Str) (ys : List Str) : inV (.str z) (ys.map V.str) = decide (z ∈ ys) := by
  unfold inV
  rw [List.any_map]
  rw [Bool.eq_iff_iff]
  simp only [List.any_eq_true, Function.comp, eqV, beq_iff_eq, decide_eq_true_eq]
  constructor
  · rintro ⟨y, hy, rfl⟩; exact hy
  · intro h; exact ⟨z, h, rfl⟩
end Ms
namespace Ms
open PySem PySem.Spec PyProof.Rows L2
/-! ### data keeps while the heap grows -/
mutual
theorem Dq.same {K : PySem.W.Frag} {m l : Addr} {H H' : Hp} (k : Same H H') : ∀ (d : PyData) (v : V), Dq K H m l v d → Dq K H' m l v d
  | .none, _, h => by cases h; exact .non
  | .bool b, _, h => by cases h; exact .bl b
  | .int i, _, h => by cases h; exact .int i
  | .str x, _, h => by cases h; exact .str x
  | .list ds, _, h => by
    cases h with
    | lst e n1 n2 t => exact .lst (k _ _ e) n1 n2 (DqAll.same k ds _ t)
  | .tuple ds, _, h => by
    cases h with
    | tup e t => exact .tup (Same.seqT k e) (DqAll.same k ds _ t)
  | .dict _, _, h => by
    cases h with
    | dct e n1 n2 => exact .dct (k _ _ e) n1 n2
theorem DqAll.same {K : PySem.W.Frag} {m l : Addr} {H H' : Hp} (k : Same H H') : ∀ (ds : List PyData) (vs : List V), DqAll K H m l vs ds → DqAll K H' m l vs ds
  | [], _, h => by cases h; exact .nil
  | d :: ds, _, h => by
    cases h with
    | cons h1 h2 => exact .cons (Dq.same k d _ h1) (DqAll.same k ds _ h2)
end
/-! ### comprehensions of two clauses -/
theorem lc2_it {J : It} {n : Nat} {G : Hp → Prop} {Y : Nat → Hp → V → Hp → Prop} (w : Walk J n G Y) {g : TG} {tt : TT} {wi1 : TI} {g1 : TG} {tt1 : TT} {te : TE} {vs vs1 : List Nat} {σ : L2.St} {H1 : Hp} {D : Addr} {Qd : Hp → Prop} (Pv : Nat → Hp → Prop)
    (h0 : Pv 0 (upd H1 D (.lst []))) (hG : ∀ i H, i ≤ n → Pv i H → G H)
    (hs : ∀ i x H H', i < n → Pv i H → Y i H x H' → g x (wipe σ vs) H' fun σ2 H2 => wipe σ2 vs = wipe σ vs ∧ tt σ2 H2 fun b H3 =>
      if b = true then wi1 σ2 H3 fun J1 H4 => ∃ W1 : Nat → Nat → Hp → Prop, (∃ m, W1 0 m H4) ∧ ∀ j k H, W1 j k H →
        (J1.stop j H ∧ Pv (i + 1) H) ∨ (J1.go j H ∧ ∃ Nx1 : Hp → Prop, (∀ H', Nx1 H' → ∃ k', k' < k ∧ W1 (j + 1) k' H') ∧ ∀ x H', J1.yld j H x H' → g1 x (wipe σ2 vs1) H' fun σ3 H5 => wipe σ3 vs1 = wipe σ2 vs1 ∧ tt1 σ3 H5 fun b H6 =>
          if b = true then te σ3 H6 fun y H7 => ∃ acc, H7 D = some (.lst acc) ∧ acc.length < sizeLine ∧ Nx1 (upd H7 D (.lst (acc ++ [y]))) else Nx1 H6)
      else Pv (i + 1) H3) (hd : ∀ H, Pv n H → Qd H) :
    ∃ W : Nat → Nat → Hp → Prop, (∃ m, W 0 m (upd H1 D (.lst []))) ∧ ∀ i m H, W i m H →
      (J.stop i H ∧ Qd H) ∨ (J.go i H ∧ ∃ Nx : Hp → Prop, (∀ H', Nx H' → ∃ m', m' < m ∧ W (i + 1) m' H') ∧ ∀ x H', J.yld i H x H' → g x (wipe σ vs) H' fun σ2 H2 => wipe σ2 vs = wipe σ vs ∧ tt σ2 H2 fun b H3 =>
        if b = true then wi1 σ2 H3 fun J1 H4 => ∃ W1 : Nat → Nat → Hp → Prop, (∃ m, W1 0 m H4) ∧ ∀ j k H, W1 j k H →
          (J1.stop j H ∧ Nx H) ∨ (J1.go j H ∧ ∃ Nx1 : Hp → Prop, (∀ H', Nx1 H' → ∃ k', k' < k ∧ W1 (j + 1) k' H') ∧ ∀ x H', J1.yld j H x H' → g1 x (wipe σ2 vs1) H' fun σ3 H5 => wipe σ3 vs1 = wipe σ2 vs1 ∧ tt1 σ3 H5 fun b H6 =>
            if b = true then te σ3 H6 fun y H7 => ∃ acc, H7 D = some (.lst acc) ∧ acc.length < sizeLine ∧ Nx1 (upd H7 D (.lst (acc ++ [y]))) else Nx1 H6)
        else Nx H3) := by
  refine ⟨fun i m H => i + m = n ∧ Pv i H, ⟨n, by omega, h0⟩, ?_⟩
  rintro i m H ⟨e, p⟩
  have q := hG i H (by omega) p
  by_cases hi : i < n
  · exact .inr ⟨w.goes i H hi q, Pv (i + 1), fun H' p' => ⟨n - (i + 1), by omega, by omega, p'⟩, fun x H' y => hs i x H H' hi p (w.yields i H x H' hi q y)⟩
  · have z : i = n := by omega
    subst z
    exact .inl ⟨w.stops H q, hd H p⟩
/-- the inner clause's walk -/
theorem lc_in {J : It} {n : Nat} {G : Hp → Prop} {Y : Nat → Hp → V → Hp → Prop} (w : Walk J n G Y) {g : TG} {tt : TT} {te : TE} {vs : List Nat} {σ : L2.St} {H4 : Hp} {D : Addr} {Qd : Hp → Prop} (Pv : Nat → Hp → Prop)
    (h0 : Pv 0 H4) (hG : ∀ i H, i ≤ n → Pv i H → G H)
    (hs : ∀ i x H H', i < n → Pv i H → Y i H x H' → g x (wipe σ vs) H' fun σ2 H2 => wipe σ2 vs = wipe σ vs ∧ tt σ2 H2 fun b H3 =>
      if b = true then te σ2 H3 fun y H4 => ∃ acc, H4 D = some (.lst acc) ∧ acc.length < sizeLine ∧ Pv (i + 1) (upd H4 D (.lst (acc ++ [y]))) else Pv (i + 1) H3) (hd : ∀ H, Pv n H → Qd H) :
    ∃ W : Nat → Nat → Hp → Prop, (∃ m, W 0 m H4) ∧ ∀ i m H, W i m H →
      (J.stop i H ∧ Qd H) ∨ (J.go i H ∧ ∃ Nx : Hp → Prop, (∀ H', Nx H' → ∃ m', m' < m ∧ W (i + 1) m' H') ∧ ∀ x H', J.yld i H x H' → g x (wipe σ vs) H' fun σ2 H2 => wipe σ2 vs = wipe σ vs ∧ tt σ2 H2 fun b H3 =>
        if b = true then te σ2 H3 fun y H4 => ∃ acc, H4 D = some (.lst acc) ∧ acc.length < sizeLine ∧ Nx (upd H4 D (.lst (acc ++ [y]))) else Nx H3) := by
  refine ⟨fun i m H => i + m = n ∧ Pv i H, ⟨n, by omega, h0⟩, ?_⟩
  rintro i m H ⟨e, p⟩
  have q := hG i H (by omega) p
  by_cases hi : i < n
  · exact .inr ⟨w.goes i H hi q, Pv (i + 1), fun H' p' => ⟨n - (i + 1), by omega, by omega, p'⟩, fun x H' y => hs i x H H' hi p (w.yields i H x H' hi q y)⟩
  · have z : i = n := by omega
    subst z
    exact .inl ⟨w.stops H q, hd H p⟩
/-! ### pairs of a text and an int, wherever they stand -/
def PrT (K : PySem.W.Frag) (H : Hp) (v : V) (q : Str × Int) : Prop := ∃ a, v = .ref a ∧ SqT K H a [.str q.1, .int q.2]
inductive PrTs (K : PySem.W.Frag) (H : Hp) : List V → List (Str × Int) → Prop
  | nil : PrTs K H [] []
  | cons {v : V} {vs : List V} {q : Str × Int} {qs : List (Str × Int)} : PrT K H v q → PrTs K H vs qs → PrTs K H (v :: vs) (q :: qs)
section
variable {K : PySem.W.Frag} {H H' : Hp}
theorem PrTs.same (s : Same H H') {vs : List V} {qs : List (Str × Int)} (p : PrTs K H vs qs) : PrTs K H' vs qs := by
  induction p with
  | nil => exact .nil
  | cons h _ ih =>
    obtain ⟨a, e, h⟩ := h
    exact .cons ⟨a, e, Same.seqT s h⟩ ih
theorem PrTs.len {vs : List V} {qs : List (Str × Int)} (p : PrTs K H vs qs) : vs.length = qs.length := by
  induction p with
  | nil => rfl
  | cons _ _ ih => simp [ih]
theorem PrTs.get {vs : List V} {qs : List (Str × Int)} (p : PrTs K H vs qs) : ∀ {i : Nat} {v : V}, vs[i]? = some v → ∃ q, qs[i]? = some q ∧ PrT K H v q := by
  induction p with
  | nil => intro i v h; simp at h
  | cons h' _ ih =>
    intro i b hb
    cases i with
    | zero => simp at hb; subst hb; exact ⟨_, rfl, h'⟩
    | succ i => exact ih (by simpa using hb)
theorem PrTs.snoc {vs : List V} {qs : List (Str × Int)} {v : V} {q : Str × Int} (p : PrTs K H vs qs) (h : PrT K H v q) : PrTs K H (vs ++ [v]) (qs ++ [q]) := by
  induction p with
  | nil => exact .cons h .nil
  | cons h' _ ih => exact .cons h' ih
end
/-! ### rows: tuples of ints, each with its own address -/
inductive Rws (H : Hp) : List Addr → List (List Int) → Prop
  | nil : Rws H [] []
  | cons {a : Addr} {as : List Addr} {r : List Int} {rs : List (List Int)} : H a = some (.tup (r.map V.int)) → Rws H as rs → Rws H (a :: as) (r :: rs)
section
variable {H H' : Hp}
theorem Rws.same {as : List Addr} {rs : List (List Int)} (s : ∀ b o, b ∈ as → H b = some o → H' b = some o) (p : Rws H as rs) : Rws H' as rs := by
  induction p with
  | nil => exact .nil
  | cons h _ ih => exact .cons (s _ _ (List.mem_cons_self ..) h) (ih fun b o hb => s b o (List.mem_cons_of_mem _ hb))
theorem Rws.snoc {as : List Addr} {rs : List (List Int)} {a : Addr} {r : List Int} (p : Rws H as rs) (h : H a = some (.tup (r.map V.int))) : Rws H (as ++ [a]) (rs ++ [r]) := by
  induction p with
  | nil => exact .cons h .nil
  | cons h' _ ih => exact .cons h' ih
theorem Rws.length {as : List Addr} {rs : List (List Int)} (p : Rws H as rs) : as.length = rs.length := by
  induction p with
  | nil => rfl
  | cons _ _ ih => simp [ih]
theorem Rws.get {as : List Addr} {rs : List (List Int)} (p : Rws H as rs) : ∀ {i : Nat} {a : Addr}, as[i]? = some a → ∃ r, rs[i]? = some r ∧ H a = some (.tup (r.map V.int)) := by
  induction p with
  | nil => intro i a h; simp at h
  | cons h' _ ih =>
    intro i b hb
    cases i with
    | zero => simp at hb; subst hb; exact ⟨_, rfl, h'⟩
    | succ i => exact ih (by simpa using hb)
end
/-! ### all standings, by the settings -/
/-- each row with each value behind it -/
def widen (rs : List (List Int)) (n : Nat) : List (List Int) := rs.flatMap fun r => (List.range n).map fun (v : Nat) => r ++ [(v : Int)]
def grid (qs : List (Str × Int)) : List (List Int) := qs.foldl (fun rs q => widen rs (q.2 + 1).toNat) [[]]
theorem widen_len (rs : List (List Int)) (n : Nat) : (widen rs n).length = rs.length * n := by
  unfold widen
  induction rs with
  | nil => simp
  | cons r rs ih => rw [List.flatMap_cons, List.length_append, ih, List.length_map, List.length_range, List.length_cons, Nat.succ_mul, Nat.add_comm]
end Ms
namespace Ms
open PySem PySem.Spec PyProof.Rows L2
/-! ### the package's settings: is_int, is_name, is_setting, names_of, grid_of -/
structure TxtP (mg : Str → Option Value) (fI fN fS fA fG : Addr) : Prop where
  isi : mg "isinstance" = none
  int : mg "int" = none
  bool : mg "bool" = none
  str : mg "str" = none
  tuple : mg "tuple" = none
  len : mg "len" = none
  all : mg "all" = none
  range : mg "range" = none
  enumerate : mg "enumerate" = none
  mS : ∃ t, mg "MOST_SETTINGS" = some (.int 3 t)
  mV : ∃ t, mg "MOST_VALUE" = some (.int 3 t)
  mT : ∃ t, mg "MOST_STANDINGS" = some (.int 12 t)
  lN : ∃ t, mg "LONGEST_NAME" = some (.int 8 t)
  gI : mg "is_int" = some (.ref fI)
  gN : mg "is_name" = some (.ref fN)
  gS : mg "is_setting" = some (.ref fS)
  gA : mg "names_of" = some (.ref fA)
  gG : mg "grid_of" = some (.ref fG)
def isInt (d : PyData) : Bool := match d with | .int _ => true | _ => false
section
variable {P : Program} {w : World} {K : PySem.W.Frag} {mg : Str → Option Value} {base : Heap} {fI fN fS fA fG : Addr}
theorem scPi : FnScope ["thing"] ["thing"] (defScope sPInt) := ⟨rfl, rfl, rfl, by decide +kernel, rfl, by decide +kernel, by decide +kernel⟩
def spPInt (K : PySem.W.Frag) : Sp := fun vs H Q _ => ∃ (m l : Addr) (v : V) (d : PyData), vs = [v] ∧ Dq K H m l v d ∧ Q (.bl (isInt d)) H
theorem ok_pint {f : Addr} {fd : FuncData} (F : Fun K "is_int" "is_int" sPInt f fd) (T : TxtP mg fI fN fS fA fG) : FnOk P w K mg base CX0 1 f fd ["thing"] (spPInt K) := by
  refine F.ok scPi (fun vs H Q E h => ?_) (fun cdv A outer s H vs Q E hr h => ?_)
  · obtain ⟨m, l, v, d, rfl, _⟩ := h
    rfl
  · obtain ⟨m, l, v, d, rfl, hd, q⟩ := h
    refine ⟨_, pss_one (ps_ret (pe_and (pe_callB call_isi (by rfl) T.isi PyProof.Rows.boot_isinstance (pa_cons (pv 0) (pa_cons (pe_bltn (v := .ty "int") (u := .type "int") (by rfl) T.int (by decide +kernel) rfl) pa_nil)))
      (pe_one (pe_not (pe_callB call_isi (by rfl) T.isi PyProof.Rows.boot_isinstance (pa_cons (pv 0) (pa_cons (pe_bltn (v := .ty "bool") (u := .type "bool") (by rfl) T.bool (by decide +kernel) rfl) pa_nil))))))), ?_⟩
    refine ⟨_, rfl, v, .ty "int", _, _, _, rfl, .ty _, hd.ty, isi_int K d, _, rfl, ?_⟩
    cases d with
    | int j =>
      cases hd
      exact ifT rfl ⟨_, rfl, .int j, .ty "bool", _, _, _, rfl, .ty _, .base (.int j), isi_bool K (.int j), _, rfl, q⟩
    | bool j =>
      cases hd
      exact ifT rfl ⟨_, rfl, .bl j, .ty "bool", _, _, _, rfl, .ty _, .base (.bl j), isi_bool K (.bool j), _, rfl, q⟩
    | _ => exact ifF rfl q
def lowB (c : Nat) : Bool := decide (97 ≤ c) && decide (c ≤ 122)
theorem lowB_alpha (c : Nat) : decide (c ∈ alpha.cps.toList) = lowB c := by
  rw [alpha_list, Bool.eq_iff_iff]
  simp only [decide_eq_true_eq, lowB, Bool.and_eq_true, List.mem_cons, List.mem_nil_iff, or_false]
  omega
theorem low_alpha : ∀ c, c < 128 → lowB c = true → Unicode.isAlpha c = true := by decide +kernel
theorem low_lower : ∀ c, c < 128 → lowB c = true → Unicode.isLower c = true := by decide +kernel
theorem low_upper : ∀ c, c < 128 → lowB c = true → (Unicode.isUpper c || Unicode.isTitle c) = false := by decide +kernel
theorem alpha_low : ∀ c, c < 128 → Unicode.isAlpha c = true → (Unicode.isUpper c || Unicode.isTitle c) = false → lowB c = true := by decide +kernel
theorem low_all (z : Str) : (Txt.isascii z && (Txt.isalpha z && Txt.islower z)) = (decide (1 ≤ z.length) && z.cps.toList.all lowB) := by
  have e1 : Txt.isascii z = z.cps.toList.all (fun c => decide (c < 128)) := by unfold Txt.isascii; rw [← Array.all_toList]
  have e2 : Txt.isalpha z = (decide (1 ≤ z.length) && z.cps.toList.all Unicode.isAlpha) := by unfold Txt.isalpha; rw [← Array.all_toList]; rfl
  have e3 : Txt.islower z = (z.cps.toList.any Unicode.isLower && !z.cps.toList.any fun c => Unicode.isUpper c || Unicode.isTitle c) := by unfold Txt.islower; rw [← Array.any_toList, ← Array.any_toList]
  have ln : z.length = z.cps.toList.length := by rw [Array.length_toList]; rfl
  rw [e1, e2, e3, ln]
  generalize z.cps.toList = l
  rw [Bool.eq_iff_iff]
  constructor
  · intro h
    simp only [Bool.and_eq_true, List.all_eq_true, Bool.not_eq_true', decide_eq_true_eq] at h ⊢
    obtain ⟨ha, ⟨h1, hb⟩, _, hu⟩ := h
    refine ⟨h1, fun c hc => alpha_low c (ha c hc) (hb c hc) ?_⟩
    cases hx : (Unicode.isUpper c || Unicode.isTitle c) with
    | false => rfl
    | true =>
      have : (l.any fun c => Unicode.isUpper c || Unicode.isTitle c) = true := List.any_eq_true.mpr ⟨c, hc, hx⟩
      rw [this] at hu
      cases hu
  · intro h
    simp only [Bool.and_eq_true, List.all_eq_true, Bool.not_eq_true', decide_eq_true_eq] at h ⊢
    obtain ⟨h1, hl⟩ := h
    have lt : ∀ c ∈ l, c < 128 := fun c hc => by
      have := hl c hc
      simp only [lowB, Bool.and_eq_true, decide_eq_true_eq] at this
      omega
    refine ⟨lt, ⟨h1, fun c hc => low_alpha c (lt c hc) (hl c hc)⟩, ?_, ?_⟩
    · match l, h1 with
      | c :: r, _ => exact List.any_eq_true.mpr ⟨c, List.mem_cons_self, low_lower c (lt c List.mem_cons_self) (hl c List.mem_cons_self)⟩
    · rw [List.any_eq_false]
      intro c hc
      rw [low_upper c (lt c hc) (hl c hc)]
      decide
abbrev NPn : List Str := ["thing"]
theorem scPn : FnScope NPn ["thing"] (defScope sPName) := ⟨rfl, rfl, rfl, by decide +kernel, rfl, by decide +kernel, by decide +kernel⟩
theorem ok_pname {f : Addr} {fd : FuncData} (F : Fun K "is_name" "is_name" sPName f fd) (T : TxtP mg fI fN fS fA fG) : FnOk P w K mg base CX0 1 f fd ["thing"] (spName K) := by
  refine F.ok scPn (fun vs H Q E h => ?_) (fun cdv A outer s H vs Q E hr h => ?_)
  · obtain ⟨m, l, v, d, rfl, _⟩ := h
    rfl
  · obtain ⟨m, l, v, d, rfl, hd, hz, q⟩ := h
    obtain ⟨tl, gl⟩ := T.lN
    refine ⟨_, pss_cons (ps_if (PW.pt (pw_or (pt_not (pt_val (pe_callB call_isi (by rfl) T.isi PyProof.Rows.boot_isinstance (pa_cons (pv 0) (pa_cons (pe_bltn (v := .ty "str") (u := .type "str") (by rfl) T.str (by decide +kernel) rfl) pa_nil)))))
        (pw_or1 (pt_cmpR op_gt (pe_callB call_len (by rfl) T.len PySem.boot_len (pa_cons (pv 0) pa_nil)) (pe_glob (v := .int 8) rfl gl ⟨_, rfl⟩) (nomark _))))) (pss_one (ps_ret pe_bl)) pss_nil)
      (pss_one (ps_ret (pe_and (pe_m0 PySem.F.slot_str_isascii PySem.F.type_str_isascii mt_isascii (pv 0)) (pe_and (pe_m0 PySem.F.slot_str_isalpha PySem.F.type_str_isalpha mt_isalpha (pv 0)) (pe_one (pe_m0 PySem.F.slot_str_islower PySem.F.type_str_islower mt_islower (pv 0))))))), ?_⟩
    refine ⟨_, rfl, v, .ty "str", _, _, _, rfl, .ty _, hd.ty, isi_str K d, _, rfl, ?_⟩
    cases d with
    | str z =>
      cases hd
      have zk := hz z rfl
      have zs : z.length ≤ sizeLine := by rw [sizeLine_eq]; have := zk.1; omega
      have en : isName (.str z) = (decide (z.length ≤ 8) && (Txt.isascii z && (Txt.isalpha z && Txt.islower z))) := by
        rw [low_all]
        show ((decide (1 ≤ z.length) && decide (z.length ≤ 8)) && z.cps.toList.all fun c => decide (c ∈ alpha.cps.toList)) = _
        have ef : (fun c => decide (c ∈ alpha.cps.toList)) = lowB := funext lowB_alpha
        rw [ef]
        cases decide (1 ≤ z.length) <;> cases decide (z.length ≤ 8) <;> rfl
      refine ifF rfl ?_
      refine ⟨_, rfl, .str z, z.length, rfl, ⟨zs, rfl⟩, (z.length : Int), 8, rfl, rfl, _, rfl, ite_b (fun e8 => ?_) (fun e8 => ?_)⟩
      · have : decide (z.length ≤ 8) = false := by
          have := of_decide_eq_true e8
          exact decide_eq_false (by omega)
        rw [en, this] at q
        exact q H (fun _ _ e => e)
      · have : decide (z.length ≤ 8) = true := by
          have := of_decide_eq_false e8
          exact decide_eq_true (by omega)
        rw [en, this, Bool.true_and] at q
        refine ⟨_, rfl, ⟨_, rfl⟩, z, rfl, rfl, trivial, _, rfl, ite_b (fun ea => ?_) (fun ea => ?_)⟩
        · rw [ea, Bool.true_and] at q
          refine ⟨_, rfl, ⟨_, rfl⟩, z, rfl, rfl, trivial, _, rfl, ite_b (fun eb => ?_) (fun eb => ?_)⟩
          · rw [eb, Bool.true_and] at q
            exact ⟨_, rfl, ⟨_, rfl⟩, z, rfl, rfl, trivial, q H (fun _ _ e => e)⟩
          · rw [eb] at q
            exact q H (fun _ _ e => e)
        · rw [ea] at q
          exact q H (fun _ _ e => e)
    | _ => exact ifT rfl (ifT rfl (q H (fun _ _ e => e)))
/-! is_setting -/
abbrev NPs : List Str := ["thing", "name", "most"]
theorem scPs : FnScope NPs ["thing"] (defScope sPSet) := ⟨rfl, rfl, rfl, by decide +kernel, rfl, by decide +kernel, by decide +kernel⟩
theorem isWhole_int (d : PyData) (lo hi : Int) (h : isInt d = false) : isWhole d lo hi = false := by cases d <;> first | rfl | cases h
def spPSet (K : PySem.W.Frag) : Sp := fun vs H Q _ => ∃ (m l : Addr) (v : V) (d : PyData) (B b : Nat), vs = [v] ∧ Dq K H m l v d ∧ Gd B 100000 b d ∧ ∀ H', Same H H' → Q (.bl (oneD d).isSome) H'
theorem ok_pset {f : Addr} {fd fdI fdN : FuncData} (F : Fun K "is_setting" "is_setting" sPSet f fd) (T : TxtP mg fI fN fS fA fG) (FI : Fun K "is_int" "is_int" sPInt fI fdI) (bI : Binds K fdI ["thing"] [])
    (FN : Fun K "is_name" "is_name" sPName fN fdN) (bN : Binds K fdN ["thing"] []) : FnOk P w K mg base CX0 2 f fd ["thing"] (spPSet K) := by
  have GI : FnOk P w K mg base CX0 1 fI fdI ["thing"] (spPInt K) := ok_pint FI T
  have GN : FnOk P w K mg base CX0 1 fN fdN ["thing"] (spName K) := ok_pname FN T
  refine F.ok scPs (fun vs H Q E h => ?_) (fun cdv A outer s H vs Q E hr h => ?_)
  · obtain ⟨m, l, v, d, B, b, rfl, _⟩ := h
    rfl
  · obtain ⟨m, l, v, d, B, b, rfl, hd, gd, q⟩ := h
    obtain ⟨tv, gv⟩ := T.mV
    refine ⟨_, pss_cons (ps_if (PW.pt (pw_or (pt_not (pt_val (pe_callB call_isi (by rfl) T.isi PyProof.Rows.boot_isinstance (pa_cons (pv 0) (pa_cons (pe_bltn (v := .ty "tuple") (u := .type "tuple") (by rfl) T.tuple (by decide +kernel) rfl) pa_nil)))))
        (pw_or1 (pt_cmpR op_ne (pe_callB call_len (by rfl) T.len PySem.boot_len (pa_cons (pv 0) pa_nil)) pe_int (nomark _))))) (pss_one (ps_ret pe_bl)) pss_nil)
      (pss_cons (ps_asg (pv 0) (pg_tup rfl (pgs_cons (pg_name (i := 1) scPs.nd rfl (Or.inl rfl)) (pgs_cons (pg_name (i := 2) scPs.nd rfl (Or.inl rfl)) pgs_nil))))
      (pss_one (ps_ret (pe_and (pe_call GN hr rfl T.gN FN.kp bN .nil pass0 (pa_cons (pv 1) pa_nil)) (pe_and (pe_call GI hr rfl T.gI FI.kp bI .nil pass0 (pa_cons (pv 2) pa_nil)) (pe_one (pe_chain op_le op_le pe_int (pv 2) (pe_glob (v := .int 3) rfl gv ⟨_, rfl⟩)))))))), ?_⟩
    refine ⟨_, rfl, v, .ty "tuple", _, _, _, rfl, .ty _, hd.ty, isi_tup K d, _, rfl, ?_⟩
    cases d with
    | tuple es =>
      cases hd with
      | tup hq hy =>
        rename_i a ys
        have ly := hy.len
        refine ifF rfl ⟨_, rfl, .ref a, ys.length, rfl, .inr ⟨ys, hq, rfl⟩, rfl, _, rfl, ite_b (fun e => ?_) (fun e => ?_)⟩
        · have : oneD (.tuple es) = none := oneD_len (fun z => by
            rw [ly, z] at e
            exact absurd e (by decide))
          rw [this] at q
          exact q H (Same.refl H)
        have l2 : ys.length = 2 := by
          have q1 : decide (V.int ((ys.length : Nat) : Int) = V.int 2) = true := by simpa using e
          have q2 := of_decide_eq_true q1
          have q3 : ((ys.length : Nat) : Int) = 2 := by injection q2
          omega
        obtain ⟨y0, y1, rfl⟩ : ∃ y0 y1, ys = [y0, y1] := by
          match ys, l2 with
          | [y0, y1], _ => exact ⟨y0, y1, rfl⟩
        obtain ⟨d0, d1, rfl⟩ : ∃ d0 d1, es = [d0, d1] := by
          match es, ly with
          | [d0, d1], _ => exact ⟨d0, d1, rfl⟩
        obtain ⟨q0, q1⟩ : Dq K H m l y0 d0 ∧ Dq K H m l y1 d1 := by
          cases hy with
          | cons h0 h1 => cases h1 with | cons h1 _ => exact ⟨h0, h1⟩
        obtain ⟨c2, eb2, g2⟩ := Gd.untup gd
        have w0 : ∀ z, d0 = .str z → sOk 100000 z := fun z ez => by
          have gz := g2.at (i := 0) (d := d0) rfl
          rw [ez] at gz
          have ww := g2.wt
          refine gz.unstr.mono ?_
          rw [ez] at ww
          simp only [PyData.weightAll, PyData.weight] at ww ⊢
          omega
        refine ⟨_, rfl, a, _, rfl, hq, rfl, _, _, rfl, _, _, rfl, rfl, ?_⟩
        refine ⟨_, rfl, m, l, y0, d0, rfl, q0, w0, fun H3 s3 => ⟨_, rfl, ite_b (fun e => ?_) (fun e => ?_)⟩⟩
        · have hn : isName d0 = true := e
          refine ⟨_, rfl, m, l, y1, d1, rfl, Dq.same s3 d1 y1 q1, _, rfl, ite_b (fun e => ?_) (fun e => ?_)⟩
          · obtain ⟨j, rfl⟩ : ∃ j, d1 = .int j := by
              cases d1 <;> first | exact ⟨_, rfl⟩ | cases e
            cases q1
            refine ⟨_, rfl, 1, j, rfl, rfl, _, rfl, ite_b (fun e => ⟨j, 3, rfl, rfl, ?_⟩) (fun e => ?_)⟩
            · have ew : (oneD (.tuple [d0, .int j])).isSome = decide (j ≤ 3) := by
                cases hw : isWhole (.int j) 1 3 with
                | true =>
                  obtain ⟨z, c, _, ec, c1, c3, eo⟩ := oneD_ok hn hw
                  cases ec
                  rw [eo]; simp [c3]
                | false =>
                  rw [oneD_whole hw]
                  have z : (decide (1 ≤ j) && decide (j ≤ 3)) = false := hw
                  rw [e, Bool.true_and] at z
                  rw [z]; rfl
              rw [ew] at q
              exact q _ s3
            · have hw : isWhole (.int j) 1 3 = false := by show (decide (1 ≤ j) && decide (j ≤ 3)) = false; rw [e]; rfl
              rw [oneD_whole hw] at q
              exact q _ s3
          · rw [oneD_whole (isWhole_int d1 1 3 e)] at q
            exact q _ s3
        · rw [oneD_name e] at q
          exact q _ s3
    | _ => exact ifT rfl (q H (Same.refl H))
/-! names_of -/
abbrev NPa : List Str := ["settings", "name", "most"]
theorem scPa : FnScope NPa ["settings"] (defScope sPNames) := ⟨rfl, rfl, rfl, by decide +kernel, rfl, by decide +kernel, by decide +kernel⟩
def spPNames (K : PySem.W.Frag) : Sp := fun vs H Q _ => ∃ (a : Addr) (xs : List V) (qs : List (Str × Int)), vs = [.ref a] ∧ SqT K H a xs ∧ PrTs K H xs qs ∧ qs.length ≤ 900 ∧
  ∀ D, H D = none → ∀ H', Same H H' → H' D = some (.lst ((qs.map (·.1)).map V.str)) → Q (.ref D) H'
theorem ok_pnames {f : Addr} {fd : FuncData} (F : Fun K "names_of" "names_of" sPNames f fd) : FnOk P w K mg base CX0 1 f fd ["settings"] (spPNames K) := by
  refine F.ok scPa (fun vs H Q E h => ?_) (fun cdv A outer s H vs Q E hr h => ?_)
  · obtain ⟨a, xs, qs, rfl, _⟩ := h
    rfl
  · obtain ⟨a, xs, qs, rfl, hs, hp, hl, q⟩ := h
    refine ⟨_, pss_one (ps_ret (pe_lc (own := [("name", 1), ("most", 2)]) (g := gTup K 2 (gCons (gName 1) (gCons (gName 2) gNil))) (by rfl) scPa.nd (pi_tup (pv 0)) (blkOk_by (own := [("name", 1), ("most", 2)]) (N := NPa) (sc := defScope sPNames) (by decide +kernel))
        (fun _ _ _ _ _ => pg_tup rfl (pgs_cons (pg_name (i := 1) scPa.nd rfl (Or.inl rfl)) (pgs_cons (pg_name (i := 2) scPa.nd rfl (Or.inl rfl)) pgs_nil))) (fun _ _ _ _ _ => pts_nil) (fun _ _ _ _ _ => pv 1))), ?_⟩
    have ll := hp.len
    refine ⟨_, rfl, a, rfl, ⟨_, hs⟩, fun D hD => ?_⟩
    refine lc_it (walk_tup (xs := xs)) (fun i H3 => H3 = upd H D (.lst (((qs.take i).map (·.1)).map V.str))) rfl (fun i H3 _ e3 => by rw [e3]; exact Same.seqT (Same.upd hD) hs) ?_ ?_
    · rintro i x H3 H4 hi e3 ⟨rfl, hx⟩
      obtain ⟨qq, hq, b, rfl, hb⟩ := hp.get hx
      have hb3 : SqT K H4 b [.str qq.1, .int qq.2] := by rw [e3]; exact Same.seqT (Same.upd hD) hb
      have ti : qs.take (i + 1) = qs.take i ++ [qq] := by rw [List.take_succ, hq]; rfl
      refine ⟨b, _, rfl, hb3, rfl, _, _, rfl, _, _, rfl, rfl, rfl, tyes ⟨_, rfl, _, by rw [e3]; exact upd_same, small1000 (by rw [List.length_map, List.length_map, List.length_take]; omega), ?_⟩⟩
      show upd H4 D _ = _
      rw [e3, upd_upd, ti, List.map_append, List.map_append]
      rfl
    · rintro H3 e3
      rw [List.take_of_length_le (by omega)] at e3
      exact q D hD H3 (e3 ▸ Same.upd hD) (by rw [e3, upd_same])
/-! grid_of -/
abbrev NPg : List Str := ["settings", "rows", "name", "most", "row", "value"]
theorem scPg : FnScope NPg ["settings"] (defScope sPGrid) := ⟨rfl, rfl, rfl, by decide +kernel, rfl, by decide +kernel, by decide +kernel⟩
def spPGrid (K : PySem.W.Frag) : Sp := fun vs H Q _ => ∃ (a : Addr) (xs : List V) (qs : List (Str × Int)), vs = [.ref a] ∧ SqT K H a xs ∧ PrTs K H xs qs ∧ qs.length ≤ 3 ∧ (∀ q ∈ qs, 1 ≤ q.2 ∧ q.2 ≤ 3) ∧
  ∀ D as H', H D = none → Same H H' → H' D = some (.lst (as.map V.ref)) → Rws H' as (grid qs) → (∀ b ∈ as, H b = none) → Q (.ref D) H'
theorem fold_row {k : Nat} : ∀ (qs : List (Str × Int)) (rs : List (List Int)) (k : Nat), (∀ r ∈ rs, r.length = k) → ∀ r ∈ qs.foldl (fun rs q => widen rs (q.2 + 1).toNat) rs, r.length = k + qs.length
  | [], rs, k, h => fun r hr => h r hr
  | q :: qs, rs, k, h => fun r hr => by
    have z := fold_row (k := k) qs (widen rs (q.2 + 1).toNat) (k + 1) (fun r hr => by
      unfold widen at hr
      obtain ⟨y, hy, hr⟩ := List.mem_flatMap.mp hr
      obtain ⟨v, _, rfl⟩ := List.mem_map.mp hr
      rw [List.length_append, h y hy]; rfl) r hr
    rw [z, List.length_cons]; omega
theorem grid_row (qs : List (Str × Int)) : ∀ r ∈ grid qs, r.length = qs.length := fun r hr => by
  have z := fold_row (k := 0) qs [[]] 0 (fun r hr => by rw [List.mem_singleton.mp hr]; rfl) r hr
  rw [z]; omega
structure Acc (H0 H1 H : Hp) (D : Addr) (as : List Addr) (rs : List (List Int)) : Prop where
  rws : Rws H as rs
  far : ∀ b ∈ as, b ≠ D ∧ H0 b = none
  at_ : H D = some (.lst (as.map V.ref))
  same : Same H1 H
theorem Acc.more {H0 H1 H : Hp} {D p : Addr} {as : List Addr} {rs : List (List Int)} {r : List Int} (A : Acc H0 H1 H D as rs) (s : Same H0 H1) (hD : H1 D = none) (hp : H p = none) :
    Acc H0 H1 (upd (upd H p (.tup (r.map V.int))) D (.lst (as.map V.ref ++ [.ref p]))) D (as ++ [p]) (rs ++ [r]) := by
  have nD : p ≠ D := fun e => by rw [e, A.at_] at hp; cases hp
  have sp : Same H (upd H p (.tup (r.map V.int))) := Same.upd hp
  refine ⟨Rws.snoc (Rws.same (fun b o hb e => ?_) A.rws) ?_, fun b hb => ?_, ?_, fun b o e => ?_⟩
  · rw [upd_ne (A.far b hb).1]; exact sp _ _ e
  · rw [upd_ne nD, upd_same]
  · rcases List.mem_append.mp hb with hb | hb
    · exact A.far b hb
    · rw [List.mem_singleton.mp hb]
      exact ⟨nD, Same.free s (Same.free A.same hp)⟩
  · rw [upd_same, List.map_append]; rfl
  · have nb : b ≠ D := ne_of_none e hD
    rw [upd_ne nb]; exact sp _ _ (A.same _ _ e)
theorem widen_take {rs : List (List Int)} {n i : Nat} {r : List Int} (h : rs[i]? = some r) : widen (rs.take (i + 1)) n = widen (rs.take i) n ++ (List.range n).map fun (v : Nat) => r ++ [(v : Int)] := by
  unfold widen
  rw [List.take_succ, h, List.flatMap_append]
  simp
theorem range_more {n : Nat} {r : List Int} : ((List.range (n + 1)).map fun (v : Nat) => r ++ [(v : Int)]) = ((List.range n).map fun (v : Nat) => r ++ [(v : Int)]) ++ [r ++ [(n : Int)]] := by
  rw [List.range_succ, List.map_append]; rfl
theorem ok_pgrid {f : Addr} {fd : FuncData} (F : Fun K "grid_of" "grid_of" sPGrid f fd) (T : TxtP mg fI fN fS fA fG) : FnOk P w K mg base CX0 1 f fd ["settings"] (spPGrid K) := by
  refine F.ok scPg (fun vs H Q E h => ?_) (fun cdv A outer s H vs Q E hr h => ?_)
  · obtain ⟨a, xs, qs, rfl, _⟩ := h
    rfl
  · obtain ⟨a, xs, qs, rfl, hs, hp, hl, hb, q⟩ := h
    refine ⟨_, pss_cons (ps_set (i := 1) scPg.nd rfl (by first | exact Or.inl rfl | exact Or.inr rfl) (pe_lst (pa_cons (pe_tup pa_nil) pa_nil)))
      (pss_cons (ps_for PassesOwn.never rfl (pi_tup (pv 0)) (pg_tup rfl (pgs_cons (pg_name (i := 2) scPg.nd rfl (by first | exact Or.inl rfl | exact Or.inr rfl)) (pgs_cons (pg_name (i := 3) scPg.nd rfl (by first | exact Or.inl rfl | exact Or.inr rfl)) pgs_nil)))
        (pss_one (ps_setLc2 (i := 1) (own := [("row", 4), ("value", 5)]) (vs1 := [5]) (g := gName 4) (g1 := gName 5) (tt := tYes) (tt1 := tYes) (te := tTup (StX.tStar K (tVar 4) (tCons (tVar 5) tNil))) (by rfl) scPg.nd rfl rfl (sw_true rfl rfl rfl (by decide +kernel)) (pi_list (pv 1)) (blkOk_by (own := [("row", 4), ("value", 5)]) (N := NPg) (sc := defScope sPGrid) (by decide +kernel)) (by decide)
          (fun _ _ _ _ _ => pg_name (i := 4) scPg.nd rfl (by first | exact Or.inl rfl | exact Or.inr rfl)) (fun _ _ _ _ _ => pts_nil) (fun _ _ _ _ _ => pi_range1 (by rfl) T.range (pa_cons (pe_op op_add (pv 3) pe_int) pa_nil))
          (fun _ _ _ _ _ => pg_name (i := 5) scPg.nd rfl (by first | exact Or.inl rfl | exact Or.inr rfl)) (fun _ _ _ _ _ => pts_nil) (fun _ _ _ _ _ => pe_tup (StX.pa_star (pv 4) (pa_cons (pv 5) pa_nil))))))
      (pss_one (ps_ret (pv 1)))), ?_⟩
    have ll := hp.len
    refine ⟨Nat.zero_le _, fun p0 h0 => ⟨(by show 1 ≤ sizeLine; decide), fun R0 hR0 => ?_⟩⟩
    have s0 : Same H (upd H p0 (.tup [])) := Same.upd h0
    have s1 : Same H (upd (upd H p0 (.tup [])) R0 (.lst [.ref p0])) := s0.trans (Same.upd hR0)
    have nR0 : p0 ≠ R0 := fun e => by rw [← e, upd_same] at hR0; cases hR0
    refine ⟨_, rfl, a, rfl, ⟨_, Same.seqT s1 hs⟩, ?_⟩
    have tk1 : ∀ {i : Nat} {qq : Str × Int}, qs[i]? = some qq → grid (qs.take (i + 1)) = widen (grid (qs.take i)) (qq.2 + 1).toNat := fun {i qq} hq => by
      unfold grid
      rw [List.take_succ, hq, List.foldl_append]
      rfl
    refine for_it (walk_tup (xs := xs)) (fun i σ H2 => ∃ (R : Addr) (as : List Addr) (v2 v3 : Option V), σ = [some (.ref a), some (.ref R), v2, v3, none, none] ∧ Same H H2 ∧ H R = none ∧ H2 R = some (.lst (as.map V.ref)) ∧ Rws H2 as (grid (qs.take i)) ∧ (∀ b ∈ as, H b = none) ∧ as.length ≤ 4 ^ i)
      ⟨R0, [p0], none, none, rfl, s1, Same.free s0 hR0, upd_same, ?_, ?_, Nat.le_refl _⟩ (fun i σ H2 _ ⟨R, as, v2, v3, _, s2, _⟩ => Same.seqT s2 hs) ?_ ?_
    · rw [List.take_zero]
      refine .cons ?_ .nil
      rw [upd_ne nR0, upd_same]; rfl
    · intro b hb
      rw [List.mem_singleton.mp hb]; exact h0
    · rintro i x σ H2 H3 hi ⟨R, as, v2, v3, rfl, s2, hR, gR, rw2, far, al⟩ ⟨rfl, hx⟩
      obtain ⟨qq, hq, b, rfl, hb2⟩ := hp.get hx
      have hqb := hb qq (List.mem_of_getElem? hq)
      have i3 : i < 3 := by omega
      have a16 : as.length ≤ 16 := Nat.le_trans al (by
        match i, i3 with
        | 0, _ => decide
        | 1, _ => decide
        | 2, _ => decide)
      have rl := rw2.length
      obtain ⟨rs, ers⟩ : ∃ rs, rs = grid (qs.take i) := ⟨_, rfl⟩
      rw [← ers] at rw2 rl
      obtain ⟨n, en⟩ : ∃ n : Nat, n = (qq.2 + 1).toNat := ⟨_, rfl⟩
      have n4 : n ≤ 4 := by omega
      refine ⟨b, _, rfl, Same.seqT s2 hb2, rfl, _, _, rfl, _, _, rfl, rfl, ?_⟩
      refine ⟨_, rfl, R, rfl, ⟨_, SqL.of gR⟩, fun D hD => ?_⟩
      have sD : Same H3 (upd H3 D (.lst [])) := Same.upd hD
      refine lc2_it (walk_list (xs := as.map V.ref)) (fun k H4 => ∃ as', Acc H H3 H4 D as' (widen (rs.take k) n)) ⟨[], .nil, (fun b hb => nomatch hb), upd_same, sD⟩ (fun k H4 _ ⟨as', A⟩ => SqL.of (A.same _ _ gR)) ?_ ?_
      · rintro k x H4 H5 hk ⟨as', A⟩ ⟨rfl, hxk⟩
        have hk' : k < as.length := by rw [List.length_map] at hk; exact hk
        obtain ⟨bk, hbk⟩ : ∃ bk, as[k]? = some bk := ⟨_, List.getElem?_eq_getElem hk'⟩
        have ex : x = .ref bk := by
          rw [List.getElem?_map, hbk] at hxk
          exact (Option.some.inj hxk).symm
        subst ex
        obtain ⟨r, hr2, gk⟩ := rw2.get hbk
        refine ⟨rfl, tyes ⟨_, rfl, _, _, rfl, rfl, qq.2 + 1, rfl, by omega, by omega, ?_⟩⟩
        rw [← en]
        refine lc_in walk_range (fun j H6 => ∃ as2, Acc H H3 H6 D as2 (widen (rs.take k) n ++ (List.range j).map fun (v : Nat) => r ++ [(v : Int)])) ⟨as', by simpa using A⟩ (fun _ _ _ _ => True.intro) ?_ ?_
        · rintro j y H6 H7 hj ⟨as2, A2⟩ ⟨rfl, ey⟩
          have ey' : y = .int (j : Int) := ey.trans (congrArg V.int (by omega))
          subst ey'
          have rlen : r.length ≤ 900 := by
            have z := grid_row (qs.take i) r (ers ▸ List.mem_of_getElem? hr2)
            rw [z, List.length_take]; omega
          have al2 : as2.length ≤ 100 := by
            rw [A2.rws.length, List.length_append, List.length_map, List.length_range, widen_len]
            have h1 : (rs.take k).length ≤ 16 := by rw [List.length_take]; omega
            have h2 := Nat.mul_le_mul h1 n4
            omega
          refine ⟨rfl, tyes ⟨_, rfl, bk, _, rfl, .inl (.inl (.inl (A2.same _ _ gk))), _, rfl, ?_, fun p hp7 => ?_⟩⟩
          · rw [List.length_append, List.length_map, List.length_singleton]
            exact Nat.le_of_lt (small1000 (by omega))
          have nD : D ≠ p := ne_of_none A2.at_ hp7
          have er : (r.map V.int ++ [.int (j : Int)] : List V) = (r ++ [(j : Int)]).map V.int := by rw [List.map_append]; rfl
          rw [er]
          refine ⟨_, by rw [upd_ne nD]; exact A2.at_, small1000 (by rw [List.length_map]; omega), as2 ++ [p], ?_⟩
          rw [range_more, ← List.append_assoc]
          exact A2.more s2 hD hp7
        · rintro H6 ⟨as2, A2⟩
          rw [← widen_take hr2] at A2
          exact ⟨as2, A2⟩
      · rintro H4 ⟨as', A⟩
        rw [List.length_map, List.take_of_length_le (by omega)] at A
        have l1 := A.rws.length
        refine ⟨D, as', _, _, rfl, s2.trans A.same, Same.free s2 hD, A.at_, ?_, fun b hb => (A.far b hb).2, ?_⟩
        · rw [tk1 hq, ← ers, ← en]; exact A.rws
        · rw [l1, widen_len, Nat.pow_succ, ← rl]
          exact Nat.mul_le_mul al n4
    · rintro σ H2 ⟨R, as, v2, v3, rfl, s2, hR, gR, rw2, far, al⟩
      rw [List.take_of_length_le (by omega)] at rw2
      exact ⟨_, rfl, q R as H2 hR s2 gR rw2 far⟩
end
end Ms
namespace Ms
open PySem PySem.Spec PyProof.Rows L2 LamX
/-! ### a law's own def that makes lambdas: its table of code objects is told -/
section
variable {P : Program} {w : World} {K : PySem.W.Frag} {mg : Str → Option Value} {base : Heap}
/-- as run_known, and the code object is told -/
theorem run_code {x qual : Str} {st : Stmt} {f : Addr} {fd : FuncData} {N ps : List Str} {k : Nat} (F : Fun K x qual st f fd) (S : FnScope N ps (defScope st))
    {A : Around} {outer : List Env} {s : Shared} {H : Hp} {args : Args} {us : List Value} {vs : List V} {Q : VK} {E : XK}
    (gA : A.guards = some []) (rm : Room (k + 1) A) (st0 : Env0 P w K mg base A outer s H) (bd : BindsTo s fd args (ps.zip us)) (rel : Vals vs us) (ln : vs.length = ps.length)
    (walk : ∀ cdv : Value, fd.code = cdv → Room k (A.deeper (envOfC qual (defScope st) s.heap.objs.size f cdv)) →
      ∃ t, PSs (cxOf CX0 P w K mg base N qual (defScope st) f cdv A outer s H E).nox (defBody st) t ∧ t { nx := fun _ H' => Q .non H', rt := Q } (start N vs) H) :
    codeAny (model P w) A (.call (.ref f) args) (CR CX0 outer P w H s Q E) s := by
  obtain ⟨oc, od, kV, doc, pm, an, cdv0, ct, osl, efd, atK, code⟩ := F.ex
  have ec : fd.code = cdv0 := by rw [efd]
  subst efd
  have inH : K.In s.heap := st0.mod.kin.keeps fun b o q => (st0.bs b o q).1
  have noLim : s.heap.NoLimit := st0.mod.nolimit.keeps fun b o q => (st0.bs b o q).1
  have kinds : ∀ y ∈ ps.zip us, (defScope st).names.lookup y.1 = some .local ∨ ((defScope st).names.lookup y.1 = some .cell ∧ ((cellsFrom (s.heap.objs.size + 1) (defScope st).names []).lookup y.1).isSome = true) := by
    rintro ⟨n, v⟩ hy
    rcases S.par n (List.of_mem_zip hy).1 with z | z
    · exact Or.inl z
    · exact Or.inr ⟨z, PySem.W.cellsFrom_some _ _ _ (.inl z)⟩
  refine codeAny_call_function rm.depth (inH _ _ atK) rfl S.co S.gen rfl (PySem.W.codeRec_of inH code) (bd _ _ _ _ ?_)
  refine wpAny_newFunctionEnv_cells S.kind kinds fun env eq s1 inC => ?_
  subst eq
  refine And.intro (noLim.keeps inC.toInCall.keep) (codeAny_func ?_)
  obtain ⟨t, derives, reads⟩ := walk cdv0 ec (rm.deeper _)
  have I := inv_start (CX := CX0) (P := P) (mg := mg) (base := base) (E := E) S rm.hd st0 ln rel inC
  refine wpAny_mono (derives.nox.run [] s1 (start N vs) H _ I reads) (fun fl s' hs => ?_) fun e s' hs => hs
  cases fl with
  | ret u =>
    obtain ⟨v, σ', H', J, rv, q⟩ := hs
    exact ⟨v, H', J.os, J.bare, J.base, J.hok, rv, q⟩
  | next =>
    obtain ⟨σ', H', J, q⟩ := hs
    exact ⟨V.non, H', J.os, J.bare, J.base, J.hok, rfl, q⟩
  | brk => obtain ⟨_, _, _, q⟩ := hs; exact q.elim
  | cont => obtain ⟨_, _, _, q⟩ := hs; exact q.elim

/-- as LawRun; c the law's code object, T its table, empty as yet -/
def LawRunT (P : Program) (w : World) (K : PySem.W.Frag) (mg : Str → Option Value) (fa c T : Addr) : Prop :=
  ∀ (base : Heap) (H : Hp) (s : Shared) (a : Addr) (ns : List Int), K.In base → base.Ns mainGlobals mg → TabB base mg c T → H T = some (.tbl #[]) → SqL K H a (ns.map V.int) → ns.length ≤ 63 → Env0 P w K mg base callerA [] s H →
    codeAny (model P w) callerA (.call (.ref fa) ⟨[.ref a], []⟩) (CR CX0 [] P w H s (fun v _ => v = .bl true) fun _ _ _ => False) s
/-- the script and the table stand alone in the heap that is told -/
structure AloneT (H : Hp) (h : Heap) (K : PySem.W.Frag) (a T : Addr) : Prop where
  only : ∀ b, H b = none ∨ b = T ∨ ∃ ob xs, H b = some (.frz ob (.lst xs))
  here : ∀ b, H b ≠ none → b = a ∨ b = T
  off : H a ≠ none → K.lookup a = none
  offT : K.lookup T = none
  tab : h.get? T = some { cls := .none, data := .fields #[] }
  told : H T = some (.tbl #[])
section
variable {H : Hp} {h : Heap} {a c T : Addr} {vs : Array Value}
theorem AloneT.hidden (x : AloneT H h K a T) (ea : h.get? a = some { cls := .type "list", data := .seq vs }) {b : Addr} {o : Obj} (e : h.get? b = some o) (d1 : o.data ≠ .seq vs) (d2 : o.data ≠ .fields #[]) : H b = none := by
  cases q : H b with
  | none => rfl
  | some u =>
    rcases x.here b (by rw [q]; exact fun z => nomatch z) with z | z
    · subst z
      rw [ea] at e
      cases e
      exact absurd rfl d1
    · subst z
      rw [x.tab] at e
      cases e
      exact absurd rfl d2
theorem AloneT.get (x : AloneT H h K a T) (ea : h.get? a = some { cls := .type "list", data := .seq vs }) {b : Addr} {o : Obj} (e : h.get? b = some o) (d1 : o.data ≠ .seq vs) (d2 : o.data ≠ .fields #[]) : (hidT h H).get? b = some o := hidT_get e (x.hidden ea e d1 d2)
theorem AloneT.ns (x : AloneT H h K a T) (ea : h.get? a = some { cls := .type "list", data := .seq vs }) {b : Addr} {m : Str → Option Value} (n : h.Ns b m) : (hidT h H).Ns b m := by
  obtain ⟨o, es, ep, e, d, r⟩ := n
  refine ⟨o, es, ep, x.get ea e ?_ ?_, d, r⟩ <;> (rw [d]; intro z; cases z)
theorem AloneT.kin (x : AloneT H h K a T) (X : K.In h) : K.In (hidT h H) := fun b o e => by
  refine hidT_get (X b o e) ?_
  cases q : H b with
  | none => rfl
  | some u =>
    rcases x.here b (by rw [q]; exact fun z => nomatch z) with z | z
    · subst z
      rw [x.off (by rw [q]; exact fun z => nomatch z)] at e
      cases e
    · subst z
      rw [x.offT] at e
      cases e
theorem AloneT.hd (x : AloneT H h K a T) (ea : h.get? a = some { cls := .type "list", data := .seq vs }) (C : PySem.W.CodeHd h c T) : PySem.W.CodeHd (hidT h H) c T := by
  obtain ⟨o, us, f, tf, g, tg, inF, n, tt, e, r1, r2, r3, r⟩ := C
  refine ⟨o, us, f, tf, g, tg, inF, n, tt, x.get ea e ?_ ?_, r1, r2, r3, r⟩
  · rw [r2]; intro z; cases z
  · intro z
    rw [r2] at z
    cases z
    simp at r3
end
theorem law_told {fa a c T : Addr} {s : Shared} {vs : List Value} {ns : List Int} {mb : Str → Option Value} {H : Hp} (R : LawRunT P w K mg fa c T) (al : AloneT H s.heap K a T)
    (X : K.In s.heap) (g : s.heap.Ns mainGlobals mg) (b : s.heap.Ns builtinsNs mb) (bb : ∀ x : Str, x ≠ "__name__" → mb x = bootBuiltins x) (lim : s.heap.NoLimit) (gs : s.gens = #[]) (C : PySem.W.CodeHd s.heap c T)
    (bm : ∃ (bm : Addr) (ob : Obj), mg "__builtins__" = some (.ref bm) ∧ bm ≠ builtinsNs ∧ s.heap.get? bm = some ob ∧ ob.cls = .type "module" ∧ ob.dict = some builtinsNs ∧ ob.data = .plain)
    (ea : s.heap.get? a = some { cls := .type "list", data := .seq vs.toArray }) (hS : SqL K H a (ns.map V.int)) (hl : ns.length ≤ 63) (ok : HOk P w H s.heap) :
    codeAny (model P w) callerA (.call (.ref fa) ⟨[.ref a], []⟩) (fun r s' => r = .ok (.ret (.bool true)) ∧ OldK s.heap s'.heap ∧ s'.os = s.os ∧ AllBare s'.gens) s := by
  have gT : mainGlobals ≠ T := fun z => by
    obtain ⟨o, es, ep, e, d, _⟩ := g
    rw [z, al.tab] at e
    cases e
    cases d
  have M : L2.Mod K mg (hidT s.heap H) := by
    refine ⟨al.kin X, al.ns ea g, ⟨mb, al.ns ea b, bb⟩, ?_⟩
    obtain ⟨mc, l1, l2⟩ := lim
    exact ⟨mc, al.ns ea l1, l2⟩
  have TB : TabB (hidT s.heap H) mg c T := by
    refine ⟨al.hd ea C, ?_, gT⟩
    obtain ⟨q, ob, b1, b2, b3, b4, b5, b6⟩ := bm
    have nG : q ≠ mainGlobals := fun z => by
      obtain ⟨o, es, ep, e, d, _⟩ := g
      rw [z, e] at b3
      cases b3
      rw [d] at b6
      cases b6
    have nT : q ≠ T := fun z => by
      rw [z, al.tab] at b3
      cases b3
      cases b6
    refine ⟨q, ob, b1, b2, nG, nT, al.get ea b3 ?_ ?_, b4, b5, b6⟩ <;> (rw [b6]; intro z; cases z)
  have st0 : Env0 P w K mg (hidT s.heap H) callerA [] s H := by
    refine ⟨rfl, M, fun b o e => of_hidT e, Nat.le_of_eq (hidT_size _ _), trivial, fun b hb => ?_, ok, AllBare.of_eq gs⟩
    cases (show b ∈ ([] : List Addr) from hb)
  refine codeAny_mono (R _ H s a ns M.kin M.glob TB al.told hS hl st0) fun r s' q => ?_
  match r, q with
  | .error e, q => exact False.elim q
  | .ok (.next), q => exact False.elim q
  | .ok (.brk), q => exact False.elim q
  | .ok (.cont), q => exact False.elim q
  | .ok (.ret u), q =>
    obtain ⟨v, H', eos, bare, un, ok', rv, qv⟩ := q
    have qv' : v = .bl true := qv
    subst qv'
    obtain rfl : u = Value.bool true := rv
    obtain ⟨more, hm⟩ := un.tbls T #[] al.told
    have eT : s'.heap.get? T = some { cls := .none, data := .fields (#[] ++ more) } := ok' T _ hm
    have other : ∀ b o, b ≠ T → s.heap.get? b = some o → s'.heap.get? b = some o := fun b o nb e => by
      rcases al.only b with z | z | ⟨ob, xs, z⟩
      · exact un.keep b o e z (fun y => by cases (show b ∈ ([] : List Addr) from y)) (by simp)
      · exact absurd z nb
      · have h1 := (ok b _ z).1
        have h2 := (ok' b _ (un.frzs b ob _ z)).1
        rw [e] at h1
        cases h1
        exact h2
    refine And.intro rfl (And.intro ⟨fun b o e => ?_, fun b o e => ?_⟩ (And.intro eos bare))
    · by_cases hb : b = T
      · subst hb
        rw [al.tab] at e
        cases e
        exact .inr (.inl ⟨(C.tab al.tab).isCodeTable, rfl, #[], more, rfl, eT⟩)
      · exact .inl (other b o hb e)
    · by_cases hb : b = T
      · subst hb
        exact ⟨_, eT⟩
      · exact ⟨o, other b o hb e⟩
theorem law_tabled {fa a c T : Addr} {s : Shared} {vs : List Value} {ns : List Int} {mb : Str → Option Value} (R : LawRunT P w K mg fa c T)
    (X : K.In s.heap) (g : s.heap.Ns mainGlobals mg) (b : s.heap.Ns builtinsNs mb) (bb : ∀ x : Str, x ≠ "__name__" → mb x = bootBuiltins x) (lim : s.heap.NoLimit) (gs : s.gens = #[]) (C : PySem.W.CodeHd s.heap c T)
    (bm : ∃ (bm : Addr) (ob : Obj), mg "__builtins__" = some (.ref bm) ∧ bm ≠ builtinsNs ∧ s.heap.get? bm = some ob ∧ ob.cls = .type "module" ∧ ob.dict = some builtinsNs ∧ ob.data = .plain)
    (et : s.heap.get? T = some { cls := .none, data := .fields #[] }) (nt : K.lookup T = none)
    (ea : s.heap.get? a = some { cls := .type "list", data := .seq vs.toArray }) (hi : IntsAre vs ns) (hl : ns.length ≤ 63) :
    codeAny (model P w) callerA (.call (.ref fa) ⟨[.ref a], []⟩) (fun r s' => r = .ok (.ret (.bool true)) ∧ OldK s.heap s'.heap ∧ s'.os = s.os ∧ AllBare s'.gens) s := by
  have rel := vals_ints hi
  have ll := hi.length
  have hl2 : ns.length ≤ sizeLine := Nat.le_trans hl (by decide)
  have naT : a ≠ T := fun z => by
    rw [z, et] at ea
    cases ea
  cases lk : K.lookup a with
  | some o =>
    have e := X a o lk
    rw [ea] at e
    cases e
    let H0 : Hp := fun b => if b = T then some (.tbl #[]) else Option.none
    have hT : H0 T = some (.tbl #[]) := if_pos rfl
    have hN : ∀ b, b ≠ T → H0 b = none := fun b hb => if_neg hb
    refine law_told (H := H0) R ⟨fun b => ?_, fun b z => ?_, fun z => absurd (hN a naT) z, nt, et, hT⟩ X g b bb lim gs C bm ea ?_ hl (fun b u z => ?_)
    · by_cases hb : b = T
      · exact .inr (.inl hb)
      · exact .inl (hN b hb)
    · by_cases hb : b = T
      · exact .inr hb
      · exact absurd (hN b hb) z
    · refine .inr ⟨_, vs.toArray, _, lk, rfl, rfl, rfl, ?_, by simpa using rel⟩
      rw [List.size_toArray, ll]
      exact hl2
    · by_cases hb : b = T
      · subst hb
        rw [hT] at z
        cases z
        exact et
      · rw [hN b hb] at z
        cases z
  | none =>
    let o0 : HO := .frz { cls := .type "list", data := .seq vs.toArray } (.lst (ns.map V.int))
    let H0 : Hp := fun b => if b = a then some o0 else if b = T then some (.tbl #[]) else Option.none
    have hA : H0 a = some o0 := if_pos rfl
    have hT : H0 T = some (.tbl #[]) := (if_neg (Ne.symm naT)).trans (if_pos rfl)
    have hN : ∀ b, b ≠ a → b ≠ T → H0 b = none := fun b h1 h2 => (if_neg h1).trans (if_neg h2)
    refine law_told (H := H0) R ⟨fun b => ?_, fun b z => ?_, fun _ => lk, nt, et, hT⟩ X g b bb lim gs C bm ea (.inl (.inr ⟨_, hA⟩)) hl (fun b u z => ?_)
    · by_cases h1 : b = a
      · subst h1; exact .inr (.inr ⟨_, _, hA⟩)
      · by_cases hb : b = T
        · exact .inr (.inl hb)
        · exact .inl (hN b h1 hb)
    · by_cases h1 : b = a
      · exact .inl h1
      · by_cases hb : b = T
        · exact .inr hb
        · exact absurd (hN b h1 hb) z
    · by_cases h1 : b = a
      · subst h1
        rw [hA] at z
        cases z
        exact ⟨ea, by rw [List.length_map]; exact hl2, vs, _, rel, ea⟩
      · by_cases hb : b = T
        · subst hb
          rw [hT] at z
          cases z
          exact et
        · rw [hN b h1 hb] at z
          cases z
/-- the end of such a law's row -/
theorem walk_tabled {l : PySem.W.OpenLaw} {q : Program} {loose : List Str} {XP : (Str → Option Value) → Heap → Prop} {YP : World → Heap → Prop} {d : DefRec} {K : Params → PySem.W.Frag} {c T : Addr} (hn : l.most = some 63) (hdf : d.params.defaults = [])
    (hY : ∀ (w : World) (h : Heap), YP w h → (K w.params).In h) (ht : ∀ (w : World) (h : Heap), YP w h → h.get? T = some { cls := .none, data := .fields #[] }) (hc : ∀ w : World, PySem.W.codeHdIn (K w.params) c T = true) (nt : ∀ w : World, (K w.params).lookup T = none)
    (R : ∀ (w : World) (mg : Str → Option Value) (fa : Addr) (h : Heap), (K w.params).In h → h.Ns mainGlobals mg → mg d.name = some (.ref fa) → LawRunT l.prog w (K w.params) mg fa c T) :
    PySem.W.WalkO q loose XP YP l.row.toRowW d [] (fun f vs => PySem.call f vs) := by
  refine Att.attach_call hn hdf fun w s₀ s₁ mg mb fa o pm cd doc a vs ns G Y ho hd hcd hmg hobj hints hlen hg => ?_
  have KX := hY w _ Y
  exact law_tabled (R w mg fa _ KX G.T.g hmg) KX G.T.g G.T.b G.T.builtins G.T.nolimit hg (PySem.W.codeHd_of_K KX (hc w)) G.T.bmain (ht w _ Y) (nt w) hobj hints hlen
end
end Ms
namespace Ms
open PySem PySem.Spec PyProof.Rows L2 LamX
/-! ### data, where the heap is changed elsewhere -/
mutual
theorem Dq.gen {K : PySem.W.Frag} {m l m' l' : Addr} {H H' : Hp} (k1 : ∀ a xs, H a = some (.lst xs) → a ≠ m → a ≠ l → H' a = some (.lst xs) ∧ a ≠ m' ∧ a ≠ l') (k2 : ∀ a xs, SqT K H a xs → SqT K H' a xs)
    (k3 : ∀ a, H a = some (.dK []) → a ≠ m → a ≠ l → H' a = some (.dK []) ∧ a ≠ m' ∧ a ≠ l') : ∀ (d : PyData) (v : V), Dq K H m l v d → Dq K H' m' l' v d
  | .none, _, h => by cases h; exact .non
  | .bool b, _, h => by cases h; exact .bl b
  | .int i, _, h => by cases h; exact .int i
  | .str x, _, h => by cases h; exact .str x
  | .list ds, _, h => by
    cases h with
    | lst e n1 n2 t =>
      obtain ⟨e', n1', n2'⟩ := k1 _ _ e n1 n2
      exact .lst e' n1' n2' (DqAll.gen k1 k2 k3 ds _ t)
  | .tuple ds, _, h => by
    cases h with
    | tup e t => exact .tup (k2 _ _ e) (DqAll.gen k1 k2 k3 ds _ t)
  | .dict _, _, h => by
    cases h with
    | dct e n1 n2 =>
      obtain ⟨e', n1', n2'⟩ := k3 _ e n1 n2
      exact .dct e' n1' n2'
theorem DqAll.gen {K : PySem.W.Frag} {m l m' l' : Addr} {H H' : Hp} (k1 : ∀ a xs, H a = some (.lst xs) → a ≠ m → a ≠ l → H' a = some (.lst xs) ∧ a ≠ m' ∧ a ≠ l') (k2 : ∀ a xs, SqT K H a xs → SqT K H' a xs)
    (k3 : ∀ a, H a = some (.dK []) → a ≠ m → a ≠ l → H' a = some (.dK []) ∧ a ≠ m' ∧ a ≠ l') : ∀ (ds : List PyData) (vs : List V), DqAll K H m l vs ds → DqAll K H' m' l' vs ds
  | [], _, h => by cases h; exact .nil
  | d :: ds, _, h => by
    cases h with
    | cons h1 h2 => exact .cons (Dq.gen k1 k2 k3 d _ h1) (DqAll.gen k1 k2 k3 ds _ h2)
end
section
variable {K : PySem.W.Frag} {H H' : Hp} {m l : Addr}
theorem ExtN.seqT (e : ExtN H H') {a : Addr} {xs : List V} (h : SqT K H a xs) : SqT K H' a xs := by
  rcases h with (h | ⟨o, h⟩) | h
  · exact .inl (.inl (e _ _ h fun _ z => nomatch z))
  · exact .inl (.inr ⟨o, e _ _ h fun _ z => nomatch z⟩)
  · exact .inr h
theorem Dq.ext (e : ExtN H H') {v : V} {d : PyData} (h : Dq K H m l v d) : Dq K H' m l v d :=
  Dq.gen (fun a xs q n1 n2 => ⟨e _ _ q (fun _ z => nomatch z), n1, n2⟩) (fun a xs q => ExtN.seqT e q) (fun a q n1 n2 => ⟨e _ _ q (fun _ z => nomatch z), n1, n2⟩) d v h
theorem Mch.ext {n : Nat} (s : ExtN H H') (M : Mch H m l n) : Mch H' m l n := by
  obtain ⟨c, cs, ls, z, h1, h2, h3, h⟩ := M.ex
  exact ⟨c, cs, ls, z, s _ _ h1 (fun _ z => nomatch z), s _ _ h2 (fun _ z => nomatch z), s _ _ h3 (fun _ z => nomatch z), h⟩
theorem Same.toN (s : Same H H') : ExtN H H' := ExtN.of s
theorem Tabs.same {T : List (Addr × Str)} (t : Tabs T H) (s : Same H H') : Tabs T H' := t.ext s
end
/-! ### a list that is locked while its next item is made -/
section
variable {K : PySem.W.Frag} {H H' : Hp} {m l L : Addr} {n : Nat} {od : Obj} {u o : HO}
theorem upd_frz (h : H L = some (.frz od u)) {b : Addr} {w : HO} (k : ∀ od u, w ≠ .frz od u) (e : H b = some w) : upd H L o b = some w := by
  have nb : b ≠ L := fun z => by
    rw [z, h] at e
    exact k _ _ (Option.some.inj e).symm
  rw [upd_ne nb]; exact e
theorem Mch.unlock (h : H L = some (.frz od u)) (M : Mch H m l n) : Mch (upd H L o) m l n := by
  obtain ⟨c, cs, ls, z, h1, h2, h3, r⟩ := M.ex
  exact ⟨c, cs, ls, z, upd_frz h (fun _ _ z => nomatch z) h1, upd_frz h (fun _ _ z => nomatch z) h2, upd_frz h (fun _ _ z => nomatch z) h3, r⟩
theorem Tabs.unlock {T : List (Addr × Str)} (h : H L = some (.frz od u)) (t : Tabs T H) : Tabs T (upd H L o) := fun p hp => by
  obtain ⟨ps, h1, h2, h3⟩ := t p hp
  refine ⟨ps, upd_frz h (fun _ _ z => nomatch z) h1, h2, fun pos cv hc => ?_⟩
  obtain ⟨c, e1, e2⟩ := h3 pos cv hc
  refine ⟨c, e1, upd_frz h (fun _ _ z => ?_) e2⟩
  unfold CodeO at z
  cases z
theorem Dq.unlock (h : H L = some (.frz od (.lst u'))) {v : V} {d : PyData} (hd : Dq K H m l v d) : Dq K (upd H L o) m l v d := by
  refine Dq.gen (fun a xs q n1 n2 => ⟨upd_frz h (fun _ _ z => nomatch z) q, n1, n2⟩) (fun a xs q => ?_) (fun a q n1 n2 => ⟨upd_frz h (fun _ _ z => nomatch z) q, n1, n2⟩) d v hd
  rcases q with (q | ⟨o', q⟩) | q
  · exact .inl (.inl (upd_frz h (fun _ _ z => nomatch z) q))
  · have q' : H a = some (.frz o' (.tup xs)) := q
    have nb : a ≠ L := fun z => by
      rw [z, h] at q'
      cases q'
    have q2 : upd H L o a = some (.frz o' (.tup xs)) := by rw [upd_ne nb]; exact q'
    exact .inl (.inr ⟨o', q2⟩)
  · exact .inr q
theorem Tabs.fr {T : List (Addr × Str)} {l' : Addr} (M : Mch H m l n) (f : Fr m l l' H H') (t : Tabs T H) : Tabs T H' := fun p hp => by
  obtain ⟨ps, h1, h2, h3⟩ := t p hp
  obtain ⟨c0, cs, ls, z, e1, e2, e3, _⟩ := M.ex
  refine ⟨ps, f.keep _ _ h1 (ne_of h1 e1 (by intro z; cases z)) (ne_of h1 e3 (by intro z; cases z)), h2, fun pos cv hc => ?_⟩
  obtain ⟨c, q1, q2⟩ := h3 pos cv hc
  exact ⟨c, q1, f.keep _ _ q2 (ne_of q2 e1 (by intro z; unfold CodeO at z; cases z)) (ne_of q2 e3 (by intro z; unfold CodeO at z; cases z))⟩
end
end Ms
namespace Ms
open PySem PySem.Spec PyProof.Rows L2
/-! ### _law_standings -/
/-- rows: tuples of ints, wherever they stand -/
inductive Rwq (K : PySem.W.Frag) (H : Hp) : List V → List (List Int) → Prop
  | nil : Rwq K H [] []
  | cons {a : Addr} {vs : List V} {r : List Int} {rs : List (List Int)} : SqT K H a (r.map V.int) → Rwq K H vs rs → Rwq K H (.ref a :: vs) (r :: rs)
section
variable {K : PySem.W.Frag} {H H' : Hp}
theorem Rwq.gen (k : ∀ a xs, SqT K H a xs → SqT K H' a xs) {vs : List V} {rs : List (List Int)} (p : Rwq K H vs rs) : Rwq K H' vs rs := by
  induction p with
  | nil => exact .nil
  | cons h _ ih => exact .cons (k _ _ h) ih
theorem Rwq.same (s : Same H H') {vs : List V} {rs : List (List Int)} (p : Rwq K H vs rs) : Rwq K H' vs rs := p.gen fun _ _ h => Same.seqT s h
theorem Rwq.snoc {vs : List V} {rs : List (List Int)} {a : Addr} {r : List Int} (p : Rwq K H vs rs) (h : SqT K H a (r.map V.int)) : Rwq K H (vs ++ [.ref a]) (rs ++ [r]) := by
  induction p with
  | nil => exact .cons h .nil
  | cons h' _ ih => exact .cons h' ih
theorem Rwq.len {vs : List V} {rs : List (List Int)} (p : Rwq K H vs rs) : vs.length = rs.length := by
  induction p with
  | nil => rfl
  | cons _ _ ih => simp [ih]
theorem Rwq.get {vs : List V} {rs : List (List Int)} (p : Rwq K H vs rs) : ∀ {i : Nat} {v : V}, vs[i]? = some v → ∃ a r, v = .ref a ∧ rs[i]? = some r ∧ SqT K H a (r.map V.int) := by
  induction p with
  | nil => intro i a h; simp at h
  | cons h' _ ih =>
    intro i b hb
    cases i with
    | zero => simp at hb; subst hb; exact ⟨_, _, rfl, rfl, h'⟩
    | succ i => exact ih (by simpa using hb)
/-- a list is written, the tuples stay -/
theorem SqT.lst {F : Addr} {u : List V} {o : HO} (h : H F = some (.lst u)) {a : Addr} {xs : List V} (q : SqT K H a xs) : SqT K (upd H F o) a xs := by
  rcases q with (q | ⟨o', q⟩) | q
  · exact .inl (.inl (by rw [upd_ne (ne_of q h (by intro z; cases z))]; exact q))
  · exact .inl (.inr ⟨o', by rw [upd_ne (ne_of q h (by intro z; cases z))]; exact q⟩)
  · exact .inr q
end
section
variable {P : Program} {w : World} {K : PySem.W.Frag} {mg : Str → Option Value} {base : Heap} {fN fM : Addr}
abbrev NLs : List Str := ["spots", "rows", "name", "most", "further", "row", "value"]
theorem scLs : FnScope NLs ["spots"] (defScope sStandings) := ⟨rfl, rfl, rfl, by decide +kernel, rfl, by decide +kernel, by decide +kernel⟩
def spLStand (K : PySem.W.Frag) : Sp := fun vs H Q _ => ∃ (a : Addr) (xs : List V) (qs : List (Str × Int)), vs = [.ref a] ∧ SqT K H a xs ∧ PrTs K H xs qs ∧ qs.length ≤ 3 ∧ (∀ q ∈ qs, 1 ≤ q.2 ∧ q.2 ≤ 3) ∧
  ∀ R vs' H', H R = none → Same H H' → H' R = some (.lst vs') → Rwq K H' vs' (grid qs) → Q (.ref R) H'
theorem grid_small : ∀ (qs : List (Str × Int)), qs.length ≤ 3 → (∀ q ∈ qs, 1 ≤ q.2 ∧ q.2 ≤ 3) → (grid qs).length ≤ 64 := by
  have key : ∀ (qs : List (Str × Int)) (rs : List (List Int)), (∀ q ∈ qs, 1 ≤ q.2 ∧ q.2 ≤ 3) → (qs.foldl (fun rs q => widen rs (q.2 + 1).toNat) rs).length ≤ rs.length * 4 ^ qs.length := by
    intro qs
    induction qs with
    | nil => intro rs _; simp
    | cons q qs ih =>
      intro rs h
      have hq := h q (List.mem_cons_self ..)
      have h1 := ih (widen rs (q.2 + 1).toNat) fun x hx => h x (List.mem_cons_of_mem _ hx)
      rw [widen_len] at h1
      have h4 : (q.2 + 1).toNat ≤ 4 := by omega
      refine Nat.le_trans h1 ?_
      rw [List.length_cons, Nat.pow_succ, Nat.mul_comm (4 ^ qs.length) 4, ← Nat.mul_assoc]
      exact Nat.mul_le_mul_right _ (Nat.mul_le_mul_left _ h4)
  intro qs hl h
  have h1 := key qs [[]] h
  have h2 : 4 ^ qs.length ≤ 4 ^ 3 := Nat.pow_le_pow_right (by decide) hl
  have : (grid qs).length ≤ ([[]] : List (List Int)).length * 4 ^ qs.length := h1
  simp at this
  omega
theorem ok_lstand {f : Addr} {fd : FuncData} (F : Fun K "_law_standings" "_law_standings" sStandings f fd) (T : TxtN mg fN) : FnOk P w K mg base CX0 1 f fd ["spots"] (spLStand K) := by
  refine F.ok scLs (fun vs H Q E h => ?_) (fun cdv A outer s H vs Q E hr h => ?_)
  · obtain ⟨a, xs, qs, rfl, _⟩ := h
    rfl
  obtain ⟨a, xs, qs, rfl, hs, hp, hl, hb, q⟩ := h
  have ll := hp.len
  refine ⟨_, pss_cons (ps_set (i := 1) scLs.nd rfl (Or.inl rfl) (pe_lst (pa_cons (pe_tup pa_nil) pa_nil)))
    (pss_cons (ps_for PassesOwn.never rfl (pi_tup (pv 0)) (pg_tup rfl (pgs_cons (pg_name (i := 2) scLs.nd rfl (Or.inl rfl)) (pgs_cons (pg_name (i := 3) scLs.nd rfl (Or.inl rfl)) pgs_nil)))
      (pss_cons (ps_set (i := 4) scLs.nd rfl (Or.inl rfl) (pe_lst pa_nil))
      (pss_cons (ps_for PassesOwn.never rfl (pi_list (pe_callTy call_list_of (by rfl) T.list (by decide +kernel) (pa_cons (pv 1) pa_nil))) (pg_name (i := 5) scLs.nd rfl (Or.inl rfl))
        (pss_one (ps_for PassesOwn.never rfl (pi_range1 (by rfl) T.range (pa_cons (pe_op op_add (pv 3) pe_int) pa_nil)) (pg_name (i := 6) scLs.nd rfl (Or.inl rfl))
          (pss_one (ps_expr (pe_bm PySem.F.plainAttrs_list PySem.F.slot_list_append PySem.F.type_list_append mt_append (pv 4) (pa_cons (pe_op op_catA (pv 5) (pe_tup (pa_cons (pv 6) pa_nil))) pa_nil)))))))
      (pss_one (ps_set (i := 1) scLs.nd rfl (Or.inl rfl) (pv 4))))))
    (pss_one (ps_ret (pv 1)))), ?_⟩
  refine ⟨Nat.zero_le _, fun p0 h0 => ⟨(by show 1 ≤ sizeLine; decide), fun R0 hR0 => ?_⟩⟩
  have s0 : Same H (upd H p0 (.tup [])) := Same.upd h0
  have s1 : Same H (upd (upd H p0 (.tup [])) R0 (.lst [.ref p0])) := s0.trans (Same.upd hR0)
  have nR0 : p0 ≠ R0 := fun e => by rw [← e, upd_same] at hR0; cases hR0
  refine ⟨_, rfl, a, rfl, ⟨_, Same.seqT s1 hs⟩, ?_⟩
  have tk1 : ∀ {i : Nat} {qq : Str × Int}, qs[i]? = some qq → grid (qs.take (i + 1)) = widen (grid (qs.take i)) (qq.2 + 1).toNat := fun {i qq} hq => by
    unfold grid
    rw [List.take_succ, hq, List.foldl_append]
    rfl
  have g64 : ∀ i, (grid (qs.take i)).length ≤ 64 := fun i => grid_small _ (by rw [List.length_take]; omega) fun q hq => hb q (List.mem_of_mem_take hq)
  refine for_it (walk_tup (xs := xs)) (fun i σ H2 => ∃ (R : Addr) (us : List V) (v2 v3 v4 v5 v6 : Option V), σ = [some (.ref a), some (.ref R), v2, v3, v4, v5, v6] ∧ Same H H2 ∧ H R = none ∧ H2 R = some (.lst us) ∧ Rwq K H2 us (grid (qs.take i)))
    ⟨R0, [.ref p0], none, none, none, none, none, rfl, s1, Same.free s0 hR0, upd_same, ?_⟩ (fun i σ H2 _ ⟨R, us, v2, v3, v4, v5, v6, _, s2, _⟩ => Same.seqT s2 hs) ?_ ?_
  · rw [List.take_zero]
    refine .cons (r := []) (.inl (.inl ?_)) .nil
    rw [upd_ne nR0, upd_same]; rfl
  · rintro i x σ H2 H3 hi ⟨R, us, v2, v3, v4, v5, v6, rfl, s2, hR, gR, rw2⟩ ⟨rfl, hx⟩
    obtain ⟨qq, hq, b, rfl, hb2⟩ := hp.get hx
    have hqb := hb qq (List.mem_of_getElem? hq)
    obtain ⟨rs, ers⟩ : ∃ rs, rs = grid (qs.take i) := ⟨_, rfl⟩
    have e1 := tk1 hq
    have g1 := g64 (i + 1)
    have g0 := g64 i
    rw [← ers] at rw2 e1 g0
    rw [e1] at g1
    obtain ⟨n, en⟩ : ∃ n : Nat, n = (qq.2 + 1).toNat := ⟨_, rfl⟩
    rw [← en] at e1 g1
    have n4 : n ≤ 4 := by omega
    have lu := rw2.len
    refine ⟨b, _, rfl, Same.seqT s2 hb2, rfl, _, _, rfl, _, _, rfl, rfl, ?_⟩
    refine ⟨(by show 0 ≤ sizeLine; decide), fun F hF => ?_⟩
    have hFH : H F = none := Same.free s2 hF
    have sF : Same H3 (upd H3 F (.lst [])) := Same.upd hF
    have nRF : R ≠ F := ne_of_none gR hF
    refine ⟨_, rfl, R, us, rfl, .inl (SqL.of (sF _ _ gR)), fun L hL => ?_⟩
    have hL3 : H3 L = none := Same.free sF hL
    have nFL : F ≠ L := fun e => by rw [← e, upd_same] at hL; cases hL
    have sL : Same (upd H3 F (.lst [])) (upd (upd H3 F (.lst [])) L (.lst us)) := Same.upd hL
    refine ⟨L, rfl, ⟨_, SqL.of upd_same⟩, for_list (K := K) (a := L) (xs := us) (fun j σ H4 => ∃ (ws : List V) (v5 v6 : Option V), σ = [some (.ref a), some (.ref R), some (.str qq.1), some (.int qq.2), some (.ref F), v5, v6] ∧ (∀ c o, H3 c = some o → H4 c = some o) ∧ H4 L = some (.lst us) ∧ H4 F = some (.lst ws) ∧ Rwq K H4 ws (widen (rs.take j) n))
      ⟨[], v5, v6, rfl, sF.trans sL, upd_same, sL _ _ upd_same, by rw [List.take_zero]; exact .nil⟩ (fun j σ H4 _ ⟨ws, v5, v6, _, _, gL, _⟩ => SqL.of gL) ?_ ?_⟩
    · rintro j y σ H4 hj ⟨ws, v5, v6, rfl, s4, gL, gF, rw4⟩
      obtain ⟨pr, r, rfl, hr, hpr⟩ := rw2.get hj
      have lw := rw4.len
      have ew := widen_take (n := n) hr
      have lw2 : (widen (rs.take (j + 1)) n).length ≤ 64 := by
        rw [widen_len, List.length_take]
        rw [widen_len] at g1
        refine Nat.le_trans (Nat.mul_le_mul_right _ (Nat.min_le_right _ _)) g1
      have lw1 : (widen (rs.take j) n).length ≤ 64 := by rw [ew, List.length_append] at lw2; omega
      have lr : r.length ≤ 3 := by
        have := grid_row (qs.take i) r (by rw [← ers]; exact List.mem_of_getElem? hr)
        rw [this, List.length_take]; omega
      refine ⟨_, rfl, _, _, rfl, rfl, qq.2 + 1, rfl, by omega, by omega, ?_⟩
      rw [← en]
      refine for_range (lo := 0) (n := n) (fun k σ H5 => ∃ (ws' : List V) (v6 : Option V), σ = [some (.ref a), some (.ref R), some (.str qq.1), some (.int qq.2), some (.ref F), some (.ref pr), v6] ∧ (∀ c o, H3 c = some o → H5 c = some o) ∧ H5 L = some (.lst us) ∧ H5 F = some (.lst ws') ∧ Rwq K H5 ws' (widen (rs.take j) n ++ (List.range k).map fun (v : Nat) => r ++ [(v : Int)]))
        ⟨ws, v6, rfl, s4, gL, gF, by simpa using rw4⟩ ?_ ?_
      · rintro k σ H5 hk ⟨ws', v6, rfl, s5, gL5, gF5, rw5⟩
        have lw5 := rw5.len
        rw [List.length_append, List.length_map, List.length_range] at lw5
        refine ⟨_, rfl, .inl ⟨rfl, _, SqL.of gF5⟩, _, rfl, _, rfl, (by show 1 ≤ sizeLine; decide), fun p6 h6 => ?_⟩
        have s6 : Same H5 (upd H5 p6 (.tup [.int (0 + (k : Int))])) := Same.upd h6
        refine catA_any (Same.seqT s6 (Same.seqT (fun c o hc => s5 c o hc) hpr)) (.inl (.inl upd_same)) (Nat.le_of_lt (small1000 (by simp; omega))) fun p7 H7 s7 c7 => ?_
        have s57 := s6.trans s7
        have gF7 : H7 F = some (.lst ws') := s57 _ _ gF5
        refine ⟨F, ws', _, rfl, rfl, gF7, small1000 (by omega), ws' ++ [.ref p7], _, rfl, fun c o hc => ?_, ?_, upd_same, ?_⟩
        · rw [upd_ne (ne_of_none hc hF)]; exact s57 _ _ (s5 c o hc)
        · rw [upd_ne nFL.symm]; exact s57 _ _ gL5
        · rw [range_more, ← List.append_assoc]
          refine Rwq.snoc ((rw5.same s57).gen fun c ys hc => SqT.lst gF7 hc) (SqT.lst gF7 ?_)
          have e : (r ++ [(k : Int)]).map V.int = r.map V.int ++ [.int (0 + (k : Int))] := by
            rw [List.map_append, Int.zero_add]; rfl
          rw [e]
          exact c7
      · rintro σ H5 ⟨ws', v6, rfl, s5, gL5, gF5, rw5⟩
        rw [← ew] at rw5
        exact ⟨ws', _, v6, rfl, s5, gL5, gF5, rw5⟩
    · rintro σ H4 ⟨ws, v5, v6, rfl, s4, gL, gF, rw4⟩
      rw [List.take_of_length_le (by omega), ← e1] at rw4
      exact ⟨_, rfl, F, ws, _, _, _, v5, v6, rfl, fun c o hc => s4 c o (s2 c o hc), hFH, gF, rw4⟩
  · rintro σ H2 ⟨R, us, v2, v3, v4, v5, v6, rfl, s2, hR, gR, rw2⟩
    rw [List.take_of_length_le (by omega)] at rw2
    exact ⟨_, rfl, q R us H2 hR s2 gR rw2⟩
end
end Ms
namespace Ms
open PySem PySem.Spec PyProof.Rows L2
/-! ### drawn names are names, and no two are the same -/
def lowC (c : Nat) : Prop := 97 ≤ c ∧ c ≤ 122
def Lw (a : Nat) (z : Str) : Prop := z.length ≤ a ∧ ∀ c ∈ z.cps.toList, lowC c
theorem Lw.ok {a : Nat} {z : Str} (h : Lw a z) : sOk a z := ⟨h.1, fun c hc => by have := (h.2 c hc).2; omega⟩
theorem Lw.mono {a b : Nat} {z : Str} (h : Lw a z) (k : a ≤ b) : Lw b z := ⟨Nat.le_trans h.1 k, h.2⟩
theorem app_list (z y : Str) : (z ++ y).cps.toList = z.cps.toList ++ y.cps.toList := Array.toList_append
theorem Lw.app {a b : Nat} {z y : Str} (h : Lw a z) (k : Lw b y) : Lw (a + b) (z ++ y) := by
  refine ⟨by rw [Str.length_append]; exact Nat.add_le_add h.1 k.1, fun c hc => ?_⟩
  rw [app_list] at hc
  exact (List.mem_append.mp hc).elim (h.2 c) (k.2 c)
theorem cut_list (z : Str) (lo hi : Option Int) : (cutS z lo hi).cps.toList = (z.cps.toList.drop (HT.sIx z.length 0 lo)).take (HT.sIx z.length z.length hi - HT.sIx z.length 0 lo) := by simp [cutS]
theorem len_list (z : Str) : z.cps.toList.length = z.length := Array.length_toList
theorem Lw.cut {a : Nat} {z : Str} (h : Lw a z) (lo hi : Option Int) : Lw a (cutS z lo hi) := by
  refine ⟨?_, fun c hc => h.2 c ?_⟩
  · rw [← len_list, cut_list, List.length_take, List.length_drop, len_list]
    have := h.1
    omega
  · rw [cut_list] at hc
    exact List.mem_of_mem_drop (List.mem_of_mem_take hc)
theorem Lw.sign {c : Nat} (h : lowC c) : Lw 1 ⟨#[c]⟩ := ⟨Nat.le_refl _, fun d hd => by simp at hd; rw [hd]; exact h⟩
theorem alpha_nat : ∀ j : Nat, j < 26 → alpha.cps.toList[j]? = some (97 + j) := by
  intro j h
  rw [alpha_list]
  have : ∀ j : Fin 26, ([97, 98, 99, 100, 101, 102, 103, 104, 105, 106, 107, 108, 109, 110, 111, 112, 113, 114, 115, 116, 117, 118, 119, 120, 121, 122] : List Nat)[j.1]? = some (97 + j.1) := by decide
  exact this ⟨j, h⟩
theorem alpha_at2 {i : Int} (h0 : 0 ≤ i) (h1 : i < 26) : atI alpha.cps.toList i = some (97 + i.toNat) ∧ lowC (97 + i.toNat) := by
  obtain ⟨j, rfl⟩ : ∃ j : Nat, i = (j : Int) := ⟨i.toNat, by omega⟩
  refine ⟨atI_nat (alpha_nat j (by omega)), ?_⟩
  unfold lowC
  omega
def nmOk (z : Str) : Prop := 1 ≤ z.length ∧ z.length ≤ 8 ∧ ∀ c ∈ z.cps.toList, lowC c
theorem nmOk.ok {z : Str} (h : nmOk z) : sOk 16 z := ⟨by have := h.2.1; omega, fun c hc => by have := (h.2.2 c hc).2; omega⟩
theorem map_nodup {k : Nat} {f : Nat → Str} (h : ∀ i j, i < k → j < k → f i = f j → i = j) : ((List.range k).map f).Nodup := by
  unfold List.Nodup
  rw [List.pairwise_map]
  refine List.Pairwise.imp_of_mem ?_ (List.pairwise_lt_range (n := k))
  intro i j hi hj hlt e
  have := h i j (List.mem_range.mp hi) (List.mem_range.mp hj) e
  omega
/-- beginnings or ends of one word -/
def fA (W : Str) (b : Int) (k : Nat) (i : Nat) : Str := if b > 7 then cutS W (some (0 + (i : Int))) none else cutS W none (some (0 + (i : Int) + 9 - (k : Int)))
theorem fA_len {W : Str} {b : Int} {k i : Nat} (hW : W.length = 8) (hk : k ≤ 8) (hi : i < k) : (fA W b k i).length = if b > 7 then 8 - i else i + 9 - k := by
  unfold fA
  by_cases h : b > 7
  · rw [if_pos h, if_pos h, ← len_list, cut_list, List.length_take, List.length_drop, len_list, hW]
    have e : (0 + (i : Int)) = ((i : Nat) : Int) := by omega
    rw [e, HT.sIx_nat]
    show min (8 - min i 8) (8 - min i 8) = 8 - i
    omega
  · rw [if_neg h, if_neg h, ← len_list, cut_list, List.length_take, List.length_drop, len_list, hW]
    have e : (0 + (i : Int) + 9 - (k : Int)) = ((i + 9 - k : Nat) : Int) := by omega
    rw [e, HT.sIx_nat, HT.sIx_none]
    omega
theorem fA_good {W : Str} {b : Int} {k : Nat} (hW : Lw 16 W) (h8 : W.length = 8) (hk : k ≤ 8) : ((List.range k).map (fA W b k)).Nodup ∧ ∀ y ∈ (List.range k).map (fA W b k), nmOk y := by
  refine ⟨map_nodup fun i j hi hj e => ?_, fun y hy => ?_⟩
  · have l1 := fA_len (b := b) h8 hk hi
    have l2 := fA_len (b := b) h8 hk hj
    rw [e, l2] at l1
    split at l1 <;> omega
  · obtain ⟨i, hi, rfl⟩ := List.mem_map.mp hy
    have hi' := List.mem_range.mp hi
    have l := fA_len (b := b) h8 hk hi'
    refine ⟨by rw [l]; split <;> omega, by rw [l]; split <;> omega, ?_⟩
    unfold fA
    split
    · exact (hW.cut _ _).2
    · exact (hW.cut _ _).2
/-- one letter exchanged -/
def fB (z : Str) (r5 r6 b : Int) (i : Nat) : Str := cutS z none (some r5) ++ ⟨#[97 + ((r6 + b * (0 + (i : Int))) % 26).toNat]⟩ ++ cutS z (some r5) none
theorem fB_list (z : Str) (r5 r6 b : Int) (i : Nat) : (fB z r5 r6 b i).cps.toList = (cutS z none (some r5)).cps.toList ++ [97 + ((r6 + b * (0 + (i : Int))) % 26).toNat] ++ (cutS z (some r5) none).cps.toList := by
  unfold fB
  rw [app_list, app_list]
theorem fB_good {z : Str} {r5 r6 b : Int} {k : Nat} (hz : Lw 7 z) (h0 : 0 ≤ r5) (h1 : r5 ≤ z.length) (hb : b = 1 ∨ b = 3 ∨ b = 5) (hk : k ≤ 8) : ((List.range k).map (fB z r5 r6 b)).Nodup ∧ ∀ y ∈ (List.range k).map (fB z r5 r6 b), nmOk y := by
  refine ⟨map_nodup fun i j hi hj e => ?_, fun y hy => ?_⟩
  · have e' : (fB z r5 r6 b i).cps.toList = (fB z r5 r6 b j).cps.toList := by rw [e]
    rw [fB_list, fB_list, List.append_assoc, List.append_assoc] at e'
    have e2 := List.append_cancel_left e'
    have e3 : 97 + ((r6 + b * (0 + (i : Int))) % 26).toNat = 97 + ((r6 + b * (0 + (j : Int))) % 26).toNat := by
      simp only [List.cons_append, List.nil_append, List.cons.injEq] at e2
      exact e2.1
    have p1 := Int.emod_nonneg (r6 + b * (0 + (i : Int))) (b := 26) (by decide)
    have p2 := Int.emod_nonneg (r6 + b * (0 + (j : Int))) (b := 26) (by decide)
    rcases hb with rfl | rfl | rfl <;> omega
  · obtain ⟨i, hi, rfl⟩ := List.mem_map.mp hy
    have l := hz.1
    obtain ⟨n5, rfl⟩ : ∃ n : Nat, r5 = (n : Int) := ⟨r5.toNat, by omega⟩
    have len : (fB z (n5 : Int) r6 b i).length = z.length + 1 := by
      rw [← len_list, fB_list, List.length_append, List.length_append, cut_list, cut_list, List.length_take, List.length_drop, List.length_take, List.length_drop, len_list, HT.sIx_nat, HT.sIx_none, HT.sIx_nat, HT.sIx_none]
      simp only [List.length_cons, List.length_nil]
      omega
    refine ⟨by rw [len]; omega, by rw [len]; omega, fun c hc => ?_⟩
    rw [fB_list] at hc
    have q1 := Int.emod_nonneg (r6 + b * (0 + (i : Int))) (b := 26) (by decide)
    have q2 := Int.emod_lt_of_pos (r6 + b * (0 + (i : Int))) (b := 26) (by decide)
    rcases List.mem_append.mp hc with hc | hc
    · rcases List.mem_append.mp hc with hc | hc
      · exact (hz.cut _ _).2 c hc
      · rw [List.mem_singleton.mp hc]
        unfold lowC
        omega
    · exact (hz.cut _ _).2 c hc
theorem mul8_len (z : Str) (c : Nat) : (cutS (z ++ Txt.mul ⟨#[c]⟩ 8) none (some 8)).length = 8 := by
  rw [mul8, ← len_list, cut_list, List.length_take, List.length_drop, len_list, Str.length_append, HT.sIx_none]
  have e : (8 : Int) = ((8 : Nat) : Int) := rfl
  rw [e, HT.sIx_nat]
  show min (min 8 (z.length + 8) - 0) (z.length + 8 - 0) = 8
  omega
section
variable {P : Program} {w : World} {K : PySem.W.Frag} {mg : Str → Option Value} {base : Heap} {fN : Addr}
def spNamesV : Sp := fun vs H Q _ => ∃ (m l : Addr) (n : Nat) (k : Nat), vs = [.ref m, .int (k : Int)] ∧ Mch H m l n ∧ n < 900000 ∧ 1 ≤ k ∧ k ≤ 8 ∧
  ∀ (p : Addr) (ys : List Str) (l' : Addr) (H' : Hp), H p = none → H' p = some (.lst (ys.map V.str)) → ys.length = k → ys.Nodup → (∀ y ∈ ys, nmOk y) → p ≠ m → p ≠ l' → Mch H' m l' (n + 11) → Fr m l l' H H' → Q (.ref p) H'
theorem ok_namesV {f : Addr} {fd fdN : FuncData} (F : Fun K "_law_names" "_law_names" sNames f fd) (T : TxtN mg fN) (FN : Fun K "_law_next" "_law_next" sNext fN fdN) (bN : Binds K fdN ["m", "many"] []) : FnOk P w K mg base CX0 2 f fd ["m", "many"] spNamesV := by
  have GN : FnOk P w K mg base CX0 1 fN fdN ["m", "many"] spNext := ok_next FN T.toTxt
  refine F.ok scNm (fun vs H Q E h => ?_) (fun cdv A outer s H vs Q E hr h => ?_)
  · obtain ⟨m, l, n, k, rfl, _⟩ := h
    rfl
  · obtain ⟨m, l, n, k, rfl, M, hn, hk, hk2, q⟩ := h
    refine ⟨_, pss_cons (ps_asg (pe_tup (pa_cons pe_str (pa_cons pe_str pa_nil))) (pg_tup rfl (pgs_cons (pg_name (i := 2) scNm.nd rfl (Or.inr rfl)) (pgs_cons (pg_name (i := 3) scNm.nd rfl (Or.inr rfl)) pgs_nil))))
      (pss_cons (ps_for PassesOwn.never rfl (pi_range1 (by rfl) T.range (pa_cons (pe_call GN hr rfl T.next FN.kp bN .nil pass0 (pa_cons (pv 0) (pa_cons pe_int pa_nil))) pa_nil)) (pg_name (i := 4) scNm.nd rfl (Or.inl rfl))
        (pss_one (ps_set (i := 3) scNm.nd rfl (Or.inr rfl) (pe_op op_add_str (pv 3) (pe_ix ix_str (pv 2) (pe_call GN hr rfl T.next FN.kp bN .nil pass0 (pa_cons (pv 0) (pa_cons pe_int pa_nil))) (fun _ _ => rfl))))))
      (pss_cons (ps_asg (pe_tup (pa_cons (pe_call GN hr rfl T.next FN.kp bN .nil pass0 (pa_cons (pv 0) (pa_cons (pe_op op_add (pe_callB call_len_str (by rfl) T.len PySem.boot_len (pa_cons (pv 3) pa_nil)) pe_int) pa_nil)))
          (pa_cons (pe_call GN hr rfl T.next FN.kp bN .nil pass0 (pa_cons (pv 0) (pa_cons pe_int pa_nil)))
          (pa_cons (pe_ix ix_list (pe_lst (pa_cons pe_int (pa_cons pe_int (pa_cons pe_int (pa_cons pe_int (pa_cons pe_int (pa_cons pe_int pa_nil))))))) (pe_call GN hr rfl T.next FN.kp bN .nil pass0 (pa_cons (pv 0) (pa_cons pe_int pa_nil))) (fun _ _ => rfl)) pa_nil))))
        (pg_tup rfl (pgs_cons (pg_name (i := 5) scNm.nd rfl (Or.inr rfl)) (pgs_cons (pg_name (i := 6) scNm.nd rfl (Or.inr rfl)) (pgs_cons (pg_name (i := 7) scNm.nd rfl (Or.inr rfl)) pgs_nil)))))
      (pss_cons (ps_set (i := 8) scNm.nd rfl (Or.inr rfl) (pe_slice sl_str (pe_op op_add_str (pv 3) (pe_op op_mul_si (pe_ix ix_str (pv 2) (pv 6) (fun _ _ => rfl)) pe_int)) po_none (po_some pe_int)))
      (pss_cons (ps_if (pt_cmpR op_gt (pv 7) pe_int (nomark _)) (pss_one (ps_ret (pe_lc (own := [("k", 4)]) (g := gName 4) (by rfl) scNm.nd (pi_range1 (by rfl) T.range (pa_cons (pv 1) pa_nil)) (blkOk_by (own := [("k", 4)]) (N := NN) (sc := defScope sNames) (by decide +kernel))
          (fun _ _ _ _ _ => pg_name (i := 4) scNm.nd rfl (Or.inl rfl)) (fun _ _ _ _ _ => pts_nil) (fun _ _ _ _ _ => pe_ifExp (pt_cmpR op_gt (pv 7) pe_int (nomark _)) (pe_slice sl_str (pv 8) (po_some (pv 4)) po_none) (pe_slice sl_str (pv 8) po_none (po_some (pe_op op_sub (pe_op op_add (pv 4) pe_int) (pv 1)))))))) pss_nil)
      (pss_one (ps_ret (pe_lc (own := [("k", 4)]) (g := gName 4) (by rfl) scNm.nd (pi_range1 (by rfl) T.range (pa_cons (pv 1) pa_nil)) (blkOk_by (own := [("k", 4)]) (N := NN) (sc := defScope sNames) (by decide +kernel))
          (fun _ _ _ _ _ => pg_name (i := 4) scNm.nd rfl (Or.inl rfl)) (fun _ _ _ _ _ => pts_nil) (fun _ _ _ _ _ => pe_op op_add_str (pe_op op_add_str (pe_slice sl_str (pv 3) po_none (po_some (pv 5)))
            (pe_ix ix_str (pv 2) (pe_op op_mod (pe_callTy call_int1 (by rfl) T.int (by decide +kernel) (pa_cons (pe_op op_add (pv 6) (pe_op op_mul (pv 7) (pv 4))) pa_nil)) pe_int) (fun _ _ => rfl))) (pe_slice sl_str (pv 3) (po_some (pv 5)) po_none))))))))), ?_⟩
    refine ⟨(by show 2 ≤ sizeLine; decide), fun p1 h1 => ⟨p1, _, rfl, .inl (.inl upd_same), rfl, _, _, rfl, _, _, rfl, rfl, ?_⟩⟩
    have s1 : Same H _ := Same.upd (o := .tup [.str alpha, .str ""]) h1
    refine ⟨_, rfl, m, l, n, 8, rfl, M.same s1, by omega, by decide, by decide, fun r0 l1 H1 r0p r0l M1 f1 => ?_⟩
    refine ⟨r0, rfl, by omega, by omega, ?_⟩
    refine for_range (lo := 0) (n := r0.toNat) (fun i σ H2 => ∃ (z : Str) (v4 : Option V) (l2 : Addr), σ = [some (.ref m), some (.int (k : Int)), some (.str alpha), some (.str z), v4, none, none, none, none] ∧ Lw i z ∧ Mch H2 m l2 (n + 1 + i) ∧ Fr m l l2 H H2)
      ⟨"", _, l1, rfl, ⟨Nat.le_refl _, fun c hc => by cases hc⟩, M1, Fr.lead s1 f1⟩ ?_ ?_
    · rintro i σ H2 hi ⟨z, v4, l2, rfl, hz, M2, f2⟩
      refine ⟨_, rfl, _, rfl, _, rfl, m, l2, _, 26, rfl, M2, by omega, by decide, by decide, fun r l3 H3 rp rl M3 f3 => ?_⟩
      obtain ⟨hc, hc2⟩ := alpha_at2 rp rl
      refine ⟨alpha, r, _, rfl, rfl, alpha_len, hc, z, _, rfl, rfl, ?_, ?_⟩
      · have := hz.1
        show z.length + 1 ≤ sizeLine
        exact small1000 (by omega)
      · exact ⟨_, _, l3, rfl, hz.app (Lw.sign hc2), M3, f2.trans f3⟩
    · rintro σ H2 ⟨z, v4, l2, rfl, hz, M2, f2⟩
      have z7 := hz.1
      have zs : z.length ≤ sizeLine := Nat.le_of_lt (small1000 (by omega))
      refine ⟨_, rfl, _, rfl, z, rfl, zs, _, _, rfl, rfl, m, l2, _, (z.length : Int) + 1, rfl, M2, by omega, by omega, by omega, fun r5 l3 H3 a5 b5 M3 f3 => ?_⟩
      refine ⟨_, rfl, m, l3, _, 26, rfl, M3, by omega, by decide, by decide, fun r6 l4 H4 a6 b6 M4 f4 => ?_⟩
      refine ⟨(by show 6 ≤ sizeLine; decide), fun pL hL => ?_⟩
      have sL := Same.upd (o := .lst [.int 1, .int 3, .int 5, .int 7, .int 9, .int 11]) hL
      have nL := M4.ne hL
      refine ⟨_, rfl, m, l4, _, 6, rfl, M4.same sL, by omega, by decide, by decide, fun r7 l5 H5 a7 b7 M5 f5 => ?_⟩
      obtain ⟨b, hb, bs, b11⟩ : ∃ b : Int, atI ([.int 1, .int 3, .int 5, .int 7, .int 9, .int 11] : List V) r7 = some (.int b) ∧ (b = 1 ∨ b = 3 ∨ b = 5 ∨ 5 < b) ∧ b ≤ 11 := by
        obtain ⟨j, rfl⟩ : ∃ j : Nat, r7 = (j : Int) := ⟨r7.toNat, by omega⟩
        have hj : j < 6 := by omega
        match j, hj with
        | 0, _ => exact ⟨1, rfl, by omega, by omega⟩
        | 1, _ => exact ⟨3, rfl, by omega, by omega⟩
        | 2, _ => exact ⟨5, rfl, by omega, by omega⟩
        | 3, _ => exact ⟨7, rfl, by omega, by omega⟩
        | 4, _ => exact ⟨9, rfl, by omega, by omega⟩
        | 5, _ => exact ⟨11, rfl, by omega, by omega⟩
      refine ⟨pL, _, r7, .int b, rfl, rfl, SqL.of (f5.keep pL _ upd_same nL.1 nL.2), hb, (by show 3 ≤ sizeLine; decide), fun p3 h3 => ?_⟩
      have F5 : Fr m l l5 H H5 := f2.trans (f3.trans (f4.trans (Fr.lead sL f5)))
      refine ⟨p3, _, rfl, .inl (.inl upd_same), rfl, _, _, rfl, _, _, rfl, _, _, rfl, rfl, ?_⟩
      have s3 := Same.upd (o := .tup [.int r5, .int r6, .int b]) h3
      have M6 := M5.same s3
      have F6 := F5.junk (o := .tup [.int r5, .int r6, .int b]) h3
      obtain ⟨hc6, cc6⟩ := alpha_at2 a6 b6
      obtain ⟨c6, ec6⟩ : ∃ c6, c6 = 97 + r6.toNat := ⟨_, rfl⟩
      rw [← ec6] at hc6 cc6
      refine ⟨_, rfl, _, rfl, _, rfl, alpha, r6, c6, rfl, rfl, alpha_len, hc6, _, 8, rfl, rfl, mul8_ok c6, z, _, rfl, rfl, ?_, 8, rfl, _, rfl, ?_, ?_⟩
      · rw [mul8]
        show z.length + 8 ≤ sizeLine
        exact Nat.le_of_lt (small1000 (by omega))
      · rw [mul8, Str.length_append]
        show z.length + 8 ≤ sizeLine
        exact Nat.le_of_lt (small1000 (by omega))
      obtain ⟨W, hW, eW⟩ : ∃ W, Lw 16 W ∧ W = cutS (z ++ Txt.mul { cps := #[c6] } 8) none (some 8) := ⟨_, by
        rw [mul8]
        exact (((hz.mono (show r0.toNat ≤ 7 by omega)).app (b := 8) ⟨by show 8 ≤ 8; decide, fun d hd => by simp at hd; rw [hd]; exact cc6⟩).mono (by decide)).cut _ _, rfl⟩
      rw [← eW]
      have W8 : W.length = 8 := by rw [eW]; exact mul8_len z c6
      have Wl : W.length ≤ sizeLine := Nat.le_trans hW.1 (by decide)
      have ek : ((k : Int)).toNat = k := by omega
      refine ⟨_, rfl, _, _, rfl, rfl, _, rfl, ite2 (fun hb5 => ?_) (fun hb5 => ?_)⟩
      · refine ⟨_, rfl, (k : Int), rfl, by omega, by omega, fun D hD => ?_⟩
        have nD := M6.ne hD
        refine lc_range (lo := 0) (n := ((k : Int)).toNat) (fun i H9 => H9 = upd _ D (.lst (((List.range i).map (fA W b k)).map V.str))) rfl ?_ ?_
        · rintro i H9 hi e9
          have li : ((List.range i).map (fA W b k)).length = i := by rw [List.length_map, List.length_range]
          have gr : ∀ y, y = fA W b k i → upd H9 D (.lst (((List.range i).map (fA W b k)).map V.str ++ [.str y])) = upd (upd H5 p3 (.tup [.int r5, .int r6, .int b])) D (.lst (((List.range (i + 1)).map (fA W b k)).map V.str)) := fun y ey => by
            rw [str_grow e9, ey]; simp only [List.range_succ, List.map_append]; rfl
          refine ⟨rfl, tyes ?_⟩
          refine ⟨_, rfl, _, _, rfl, rfl, _, rfl, ite2 (fun h7 => ?_) (fun h7 => ?_)⟩
          · exact ⟨_, rfl, _, rfl, _, rfl, _, rfl, Wl, _, by rw [e9]; exact upd_same, small1000 (by rw [List.length_map, li]; omega), gr _ (by unfold fA; rw [if_pos (show b > 7 from of_decide_eq_true h7)])⟩
          · exact ⟨_, rfl, _, rfl, _, _, rfl, rfl, _, rfl, _, _, rfl, rfl, _, rfl, _, rfl, Wl, _, by rw [e9]; exact upd_same, small1000 (by rw [List.length_map, li]; omega), gr _ (by unfold fA; rw [if_neg (show ¬ b > 7 from fun z => h7 (decide_eq_true z))])⟩
        · rintro H9 e9
          rw [ek] at e9
          obtain ⟨g1, g2⟩ := fA_good (b := b) hW W8 hk2
          have sD := Same.upd (o := .lst (((List.range k).map (fA W b k)).map V.str)) hD
          rw [e9]
          exact q D _ l5 _ (F6.free hD) upd_same (by rw [List.length_map, List.length_range]) g1 g2 nD.1 nD.2 ((M6.same sD).mono (by omega)) (F6.junk hD)
      · refine ⟨_, rfl, (k : Int), rfl, by omega, by omega, fun D hD => ?_⟩
        have nD := M6.ne hD
        have hz7 : Lw 7 z := hz.mono (by omega)
        have z7o := hz7.ok
        refine lc_range (lo := 0) (n := ((k : Int)).toNat) (fun i H9 => H9 = upd _ D (.lst (((List.range i).map (fB z r5 r6 b)).map V.str))) rfl ?_ ?_
        · rintro i H9 hi e9
          have li : ((List.range i).map (fB z r5 r6 b)).length = i := by rw [List.length_map, List.length_range]
          have nb5 : ¬ (5 < b) := fun z => hb5 (decide_eq_true z)
          have b15 : 1 ≤ b ∧ b ≤ 11 := by omega
          obtain ⟨hc9, cc9⟩ := alpha_at2 (i := (r6 + b * (0 + (i : Int))) % 26) (Int.emod_nonneg _ (by decide)) (Int.emod_lt_of_pos _ (by decide))
          have p1 := (hz7.cut none (some r5))
          have p2 := (p1.app (Lw.sign cc9))
          have p3' := (hz7.cut (some r5) none)
          refine ⟨rfl, tyes ?_⟩
          refine ⟨_, rfl, _, rfl, _, rfl, _, rfl, zs, _, rfl, _, rfl, _, rfl, _, rfl, _, _, rfl, rfl, .inr ⟨by omega, by omega⟩, _, _, rfl, rfl, .inl ⟨_, rfl, _, _, rfl, rfl, (by show (0 : Int) < 26; decide), ?_⟩⟩
          refine ⟨alpha, _, _, rfl, rfl, alpha_len, hc9, _, _, rfl, rfl, ?_, _, rfl, _, rfl, _, rfl, _, rfl, zs, _, _, rfl, rfl, ?_, _, by rw [e9]; exact upd_same, small1000 (by rw [List.length_map, li]; omega), ?_⟩
          · have := p1.1
            show _ + 1 ≤ sizeLine
            exact Nat.le_of_lt (small1000 (by omega))
          · have := p2.1
            have := p3'.1
            exact Nat.le_of_lt (small1000 (by omega))
          · rw [str_grow e9]; simp only [List.range_succ, List.map_append]; rfl
        · rintro H9 e9
          rw [ek] at e9
          obtain ⟨g1, g2⟩ := fB_good (r5 := r5) (r6 := r6) (b := b) hz7 a5 (by omega) (by have nb5 : ¬ (5 < b) := fun z => hb5 (decide_eq_true z); omega) hk2
          have sD := Same.upd (o := .lst (((List.range k).map (fB z r5 r6 b)).map V.str)) hD
          rw [e9]
          exact q D _ l5 _ (F6.free hD) upd_same (by rw [List.length_map, List.length_range]) g1 g2 nD.1 nD.2 ((M6.same sD).mono (by omega)) (F6.junk hD)
end
end Ms
namespace Ms
open PySem PySem.Spec PyProof.Rows L2
/-- what a drawn place is -/
theorem do_good {z : Str} {r : Int} (hz : sOk 16 z) (h0 : 0 ≤ r) (h1 : r < 16) : Gd big 460 2 (.tuple [.str "do", .str z, .int r]) := by
  have g1 : Gd big 16 0 (.str "do") := Gd.str ⟨by decide, by decide⟩
  have g2 : Gd big 16 0 (.str z) := Gd.str hz
  have g3 : Gd big 104 0 (.int r) := Gd.int (by show r.natAbs ≤ 10 ^ 30; omega) (by decide)
  exact (Gd.tup ((Gl'.one g1).app ((Gl'.one g2).app (Gl'.one g3)))).mono (Nat.le_refl _) (by omega) (by omega)
theorem end_good : Gd big 460 2 (.tuple [.str "end"]) := (Gd.tup (Gl'.one (Gd.str (a := 16) ⟨by decide, by decide⟩))).mono (Nat.le_refl _) (by omega) (by omega)
theorem ints_good : ∀ ns : List Int, (∀ x ∈ ns, 0 ≤ x ∧ x < 16) → Gl' big (105 * ns.length) 0 (ns.map PyData.int)
  | [], _ => ⟨(fun d h => nomatch h), Nat.le_refl _, (fun d h => nomatch h)⟩
  | x :: ns, h => by
    obtain ⟨h0, h1⟩ := h x (List.mem_cons_self ..)
    have g := (Gl'.one (Gd.int (B := big) (i := x) (by show x.natAbs ≤ 10 ^ 30; omega) (by decide))).app (ints_good ns fun y hy => h y (List.mem_cons_of_mem _ hy))
    exact g.mono (Nat.le_refl _) (by simp only [List.length_cons]; omega) (Nat.le_refl _)
theorem ask_good {z : Str} {ns : List Int} (hz : sOk 16 z) (hn : ∀ x ∈ ns, 0 ≤ x ∧ x < 16) (hl : ns.length ≤ 4) : Gd big 460 2 (.tuple [.str "ask", .str z, .tuple (ns.map .int)]) := by
  have g1 : Gd big 16 1 (.str "ask") := (Gd.str (a := 16) ⟨by decide, by decide⟩).mono (Nat.le_refl _) (Nat.le_refl _) (by omega)
  have g2 : Gd big 16 1 (.str z) := (Gd.str hz).mono (Nat.le_refl _) (Nat.le_refl _) (by omega)
  have g3 := Gd.tup (ints_good ns hn)
  exact (Gd.tup ((Gl'.one g1).app ((Gl'.one g2).app (Gl'.one g3)))).mono (Nat.le_refl _) (by omega) (by omega)
theorem ints_dq {K : PySem.W.Frag} {H : Hp} {m l : Addr} : ∀ ns : List Int, DqAll K H m l (ns.map V.int) (ns.map PyData.int)
  | [] => .nil
  | _ :: ns => .cons (.int _) (ints_dq ns)
/-- what a drawn place is: an end, a deed, an ask -/
def plD (qs : List (Str × Int)) (many : Int) (d : PyData) : Prop := d = .tuple [.str "end"] ∨ (∃ (z : Str) (r : Int), d = .tuple [.str "do", .str z, .int r] ∧ nmOk z ∧ 0 ≤ r ∧ r < many) ∨
  ∃ q ∈ qs, ∃ ns : List Int, d = .tuple [.str "ask", .str q.1, .tuple (ns.map .int)] ∧ (ns.length : Int) = q.2 + 1 ∧ ∀ x ∈ ns, 0 ≤ x ∧ x < many
def PlG (qs : List (Str × Int)) (many : Int) (d : PyData) : Prop := Gd big 460 2 d ∧ plD qs many d
end Ms
namespace Ms
open PySem PySem.Spec PyProof.Rows L2
/-! ### plain rows -/
theorem eqV_str {a b : Str} : eqV (.str a) (.str b) = decide (a = b) := by
  first | rfl | (show (a == b) = decide (a = b); exact Bool.eq_iff_iff.mpr (by simp))
/-- where the name stands -/
def idxN (z : Str) : List (Str × Int) → Nat
  | [] => 0
  | q :: qs => if q.1 = z then 0 else idxN z qs + 1
theorem idxN_at {z : Str} : ∀ {qs : List (Str × Int)}, z ∈ qs.map (·.1) → ∃ q, qs[idxN z qs]? = some q ∧ q.1 = z ∧ ∀ (j : Nat) (q' : Str × Int), j < idxN z qs → qs[j]? = some q' → q'.1 ≠ z
  | [], h => nomatch h
  | q :: qs, h => by
    unfold idxN
    by_cases e : q.1 = z
    · rw [if_pos e]
      exact ⟨q, rfl, e, fun j q' hj _ => absurd hj (Nat.not_lt_zero _)⟩
    · rw [if_neg e]
      have h' : z ∈ qs.map (·.1) := by
        rcases List.mem_cons.mp h with h | h
        · exact absurd h.symm e
        · exact h
      obtain ⟨q2, h1, h2, h3⟩ := idxN_at h'
      refine ⟨q2, h1, h2, fun j q' hj hq => ?_⟩
      cases j with
      | zero =>
        have : q' = q := (Option.some.inj hq).symm
        rw [this]; exact e
      | succ j => exact h3 j q' (by omega) hq
/-- a go: the deed's name, and the number of the next place; none at an end -/
def goD (qs : List (Str × Int)) (st : List Int) (d : PyData) : Option (Option Str × Int) := match d with
  | .tuple [.str _, .str z, .int r] => some (some z, r)
  | .tuple [.str _, .str z, .tuple ns] => some (none, match ns.getD (st.getD (idxN z qs) 0).toNat .none with | .int r => r | _ => 0)
  | _ => none
def stOk (qs : List (Str × Int)) (st : List Int) : Prop := st.length = qs.length ∧ ∀ (i : Nat) (q : Str × Int) (v : Int), qs[i]? = some q → st[i]? = some v → 0 ≤ v ∧ v ≤ q.2
theorem go_end {qs : List (Str × Int)} {st : List Int} : goD qs st (.tuple [.str "end"]) = none := rfl
theorem go_do {qs : List (Str × Int)} {st : List Int} {w z : Str} {r : Int} : goD qs st (.tuple [.str w, .str z, .int r]) = some (some z, r) := rfl
theorem go_ask {qs : List (Str × Int)} {st : List Int} {w : Str} {q : Str × Int} {ns : List Int} (hst : stOk qs st) (hn : (qs.map (·.1)).Nodup) (hq : q ∈ qs) (hl : (ns.length : Int) = q.2 + 1) :
    ∃ (i : Nat) (v r : Int), qs[i]? = some q ∧ idxN q.1 qs = i ∧ st[i]? = some v ∧ 0 ≤ v ∧ v ≤ q.2 ∧ ns[v.toNat]? = some r ∧ r ∈ ns ∧ goD qs st (.tuple [.str w, .str q.1, .tuple (ns.map .int)]) = some (none, r) := by
  obtain ⟨q2, h1, h2, h3⟩ := idxN_at (z := q.1) (qs := qs) (List.mem_map_of_mem hq)
  have e : q2 = q := by
    obtain ⟨j, hj⟩ := List.mem_iff_getElem?.mp hq
    have a1 : (qs.map (·.1))[idxN q.1 qs]? = some q.1 := by rw [List.getElem?_map, h1]; exact congrArg some h2
    have a2 : (qs.map (·.1))[j]? = some q.1 := by rw [List.getElem?_map, hj]; rfl
    obtain ⟨b1, c1⟩ := List.getElem?_eq_some_iff.mp a1
    obtain ⟨b2, c2⟩ := List.getElem?_eq_some_iff.mp a2
    have : idxN q.1 qs = j := (List.getElem_inj hn).mp (c1.trans c2.symm)
    rw [this, hj] at h1
    exact (Option.some.inj h1).symm
  subst e
  obtain ⟨b1, _⟩ := List.getElem?_eq_some_iff.mp h1
  have hs : idxN q2.1 qs < st.length := by rw [hst.1]; exact b1
  have es : st[idxN q2.1 qs]? = some st[idxN q2.1 qs] := List.getElem?_eq_getElem hs
  obtain ⟨v0, v1⟩ := hst.2 _ _ _ h1 es
  have hv : (st[idxN q2.1 qs]).toNat < ns.length := by omega
  have en : ns[(st[idxN q2.1 qs]).toNat]? = some ns[(st[idxN q2.1 qs]).toNat] := List.getElem?_eq_getElem hv
  refine ⟨_, _, _, h1, rfl, es, v0, v1, en, List.getElem_mem hv, ?_⟩
  show some (none, _) = _
  have e1 : st.getD (idxN q2.1 qs) 0 = st[idxN q2.1 qs] := by rw [List.getD_eq_getElem?_getD, es]; rfl
  rw [e1]
  have e2 : (ns.map PyData.int).getD (st[idxN q2.1 qs]).toNat .none = .int ns[(st[idxN q2.1 qs]).toNat] := by
    rw [List.getD_eq_getElem?_getD, List.getElem?_map, en]; rfl
  rw [e2]
def walkD (qs : List (Str × Int)) (st : List Int) (ds : List PyData) : Nat → Nat → List Str → Option (List Str)
  | 0, _, _ => none
  | k + 1, h, row => match goD qs st (ds.getD h .none) with
    | none => some row
    | some (z, r) => walkD qs st ds k r.toNat (row ++ z.toList)
def plainR (qs : List (Str × Int)) (ds : List PyData) (st : List Int) : Option (List Str) := walkD qs st ds ds.length 0 []
section
variable {qs : List (Str × Int)} {st : List Int} {ds : List PyData}
theorem walk_end {k h : Nat} {row : List Str} (e : goD qs st (ds.getD h .none) = none) : walkD qs st ds (k + 1) h row = some row := by unfold walkD; rw [e]
theorem walk_go {k h : Nat} {row : List Str} {z : Option Str} {r : Int} (e : goD qs st (ds.getD h .none) = some (z, r)) : walkD qs st ds (k + 1) h row = walkD qs st ds k r.toNat (row ++ z.toList) := by
  conv => lhs; unfold walkD
  rw [e]
/-- the end is reached by t gos -/
inductive Rch (qs : List (Str × Int)) (st : List Int) (ds : List PyData) : Nat → Nat → Prop
  | fin {h : Nat} : goD qs st (ds.getD h .none) = none → Rch qs st ds 0 h
  | go {t h : Nat} {z : Option Str} {r : Int} : goD qs st (ds.getD h .none) = some (z, r) → Rch qs st ds t r.toNat → Rch qs st ds (t + 1) h
theorem Rch.same {t : Nat} : ∀ {u h : Nat}, Rch qs st ds t h → Rch qs st ds u h → t = u := by
  induction t with
  | zero =>
    intro u h a b
    cases a with
    | fin e =>
      cases b with
      | fin _ => rfl
      | go e' _ => rw [e] at e'; cases e'
  | succ t ih =>
    intro u h a b
    cases a with
    | go e a' =>
      cases b with
      | fin e' => rw [e] at e'; cases e'
      | go e' b' =>
        rw [e] at e'
        cases e'
        rw [ih a' b']
theorem walk_reach : ∀ (k h : Nat) (row w : List Str), walkD qs st ds k h row = some w → ∃ t, t < k ∧ Rch qs st ds t h
  | 0, _, _, _, e => by cases e
  | k + 1, h, row, w, e => by
    cases g : goD qs st (ds.getD h .none) with
    | none => exact ⟨0, by omega, .fin g⟩
    | some zr =>
      obtain ⟨z, r⟩ := zr
      rw [walk_go g] at e
      obtain ⟨t, h1, h2⟩ := walk_reach k _ _ _ e
      exact ⟨t + 1, by omega, .go g h2⟩
theorem reach_walk : ∀ (t k1 k2 h : Nat) (row : List Str), Rch qs st ds t h → t < k1 → t < k2 → walkD qs st ds k1 h row = walkD qs st ds k2 h row
  | 0, k1, k2, h, row, a, h1, h2 => by
    cases a with
    | fin g =>
      obtain ⟨k1, rfl⟩ : ∃ k, k1 = k + 1 := ⟨k1 - 1, by omega⟩
      obtain ⟨k2, rfl⟩ : ∃ k, k2 = k + 1 := ⟨k2 - 1, by omega⟩
      rw [walk_end g, walk_end g]
  | t + 1, k1, k2, h, row, a, h1, h2 => by
    cases a with
    | go g a' =>
      obtain ⟨k1, rfl⟩ : ∃ k, k1 = k + 1 := ⟨k1 - 1, by omega⟩
      obtain ⟨k2, rfl⟩ : ∃ k, k2 = k + 1 := ⟨k2 - 1, by omega⟩
      rw [walk_go g, walk_go g]
      exact reach_walk t k1 k2 _ _ a' (by omega) (by omega)
theorem nodup_bound : ∀ (n : Nat) (l : List Nat), l.Nodup → (∀ x ∈ l, x < n) → l.length ≤ n
  | 0, l, _, h => by
    cases l with
    | nil => exact Nat.le_refl _
    | cons x _ => exact absurd (h x (List.mem_cons_self ..)) (Nat.not_lt_zero _)
  | n + 1, l, d, h => by
    by_cases m : n ∈ l
    · have d' := d.erase n
      have := nodup_bound n (l.erase n) d' fun x hx => by
        have h1 := (List.Nodup.mem_erase_iff d).mp hx
        have := h x h1.2
        have := h1.1
        omega
      rw [List.length_erase_of_mem m] at this
      omega
    · have := nodup_bound n l d fun x hx => by
        have h1 := h x hx
        have : x ≠ n := fun e => m (e ▸ hx)
        omega
      omega
/-- the places of the way, each with its own number of gos that are left -/
theorem reach_way {n : Nat} (cl : ∀ h z r, h < n → goD qs st (ds.getD h .none) = some (z, r) → r.toNat < n) : ∀ (t h : Nat), h < n → Rch qs st ds t h → ∃ l : List Nat, l.length = t + 1 ∧ (∀ x ∈ l, x < n ∧ ∃ u, u ≤ t ∧ Rch qs st ds u x) ∧ l.Nodup
  | 0, h, hn, a => ⟨[h], rfl, fun x hx => by rw [List.mem_singleton.mp hx]; exact ⟨hn, 0, Nat.le_refl _, a⟩, by simp⟩
  | t + 1, h, hn, a => by
    cases a with
    | go g a' =>
      obtain ⟨l, h1, h2, h3⟩ := reach_way cl t _ (cl h _ _ hn g) a'
      refine ⟨h :: l, by simp [h1], fun x hx => ?_, List.nodup_cons.mpr ⟨fun hx => ?_, h3⟩⟩
      · rcases List.mem_cons.mp hx with rfl | hx
        · exact ⟨hn, t + 1, Nat.le_refl _, .go g a'⟩
        · obtain ⟨b1, u, b2, b3⟩ := h2 x hx
          exact ⟨b1, u, by omega, b3⟩
      · obtain ⟨_, u, b2, b3⟩ := h2 h hx
        have := Rch.same (Rch.go g a') b3
        omega
theorem reach_few {n t h : Nat} (cl : ∀ h z r, h < n → goD qs st (ds.getD h .none) = some (z, r) → r.toNat < n) (hn : h < n) (a : Rch qs st ds t h) : t < n := by
  obtain ⟨l, h1, h2, h3⟩ := reach_way cl t h hn a
  have := nodup_bound n l h3 fun x hx => (h2 x hx).1
  omega
/-- one turn more tells no more -/
theorem walk_more {n : Nat} (cl : ∀ h z r, h < n → goD qs st (ds.getD h .none) = some (z, r) → r.toNat < n) {h : Nat} (hn : h < n) (row : List Str) : walkD qs st ds (n + 1) h row = walkD qs st ds n h row := by
  cases e : walkD qs st ds (n + 1) h row with
  | some w =>
    obtain ⟨t, h1, h2⟩ := walk_reach _ _ _ _ e
    have := reach_few cl hn h2
    rw [← e]
    exact reach_walk t _ _ _ _ h2 h1 this
  | none =>
    cases e2 : walkD qs st ds n h row with
    | none => rfl
    | some w =>
      obtain ⟨t, h1, h2⟩ := walk_reach _ _ _ _ e2
      rw [reach_walk t (n + 1) n _ _ h2 (by omega) h1, e2] at e
      cases e
end
/-! ### a place where it stands -/
theorem ints_of {K : PySem.W.Frag} {H : Hp} {m l : Addr} : ∀ {ns : List Int} {xs : List V}, DqAll K H m l xs (ns.map PyData.int) → xs = ns.map V.int
  | [], _, h => by cases h; rfl
  | n :: ns, _, h => by
    cases h with
    | cons h1 h2 => cases h1; rw [ints_of h2]; rfl
/-- a place in the heap -/
inductive PlA (K : PySem.W.Frag) (H : Hp) (qs : List (Str × Int)) (many : Int) : V → PyData → Prop
  | fin {a : Addr} : SqT K H a [.str "end"] → PlA K H qs many (.ref a) (.tuple [.str "end"])
  | deed {a : Addr} {z : Str} {r : Int} : SqT K H a [.str "do", .str z, .int r] → nmOk z → 0 ≤ r → r < many → PlA K H qs many (.ref a) (.tuple [.str "do", .str z, .int r])
  | ask {a b : Addr} {q : Str × Int} {ns : List Int} : q ∈ qs → SqT K H a [.str "ask", .str q.1, .ref b] → SqT K H b (ns.map V.int) → (ns.length : Int) = q.2 + 1 → (∀ x ∈ ns, 0 ≤ x ∧ x < many) → PlA K H qs many (.ref a) (.tuple [.str "ask", .str q.1, .tuple (ns.map .int)])
theorem pl_at {K : PySem.W.Frag} {H : Hp} {m l : Addr} {qs : List (Str × Int)} {many : Int} {v : V} {d : PyData} (h : Dq K H m l v d) (p : plD qs many d) : PlA K H qs many v d := by
  rcases p with rfl | ⟨z, r, rfl, hz, h0, h1⟩ | ⟨q, hq, ns, rfl, hl, hn⟩
  · cases h with
    | tup e t =>
      cases t with
      | cons t1 t2 => cases t1; cases t2; exact .fin e
  · cases h with
    | tup e t =>
      cases t with
      | cons t1 t2 =>
        cases t1
        cases t2 with
        | cons t1 t2 =>
          cases t1
          cases t2 with
          | cons t1 t2 => cases t1; cases t2; exact .deed e hz h0 h1
  · cases h with
    | tup e t =>
      cases t with
      | cons t1 t2 =>
        cases t1
        cases t2 with
        | cons t1 t2 =>
          cases t1
          cases t2 with
          | cons t1 t2 =>
            cases t2
            cases t1 with
            | tup e2 t3 =>
              rw [ints_of t3] at e2
              exact .ask hq e e2 hl hn
theorem PlA.same {K : PySem.W.Frag} {H H' : Hp} {qs : List (Str × Int)} {many : Int} {v : V} {d : PyData} (s : Same H H') (p : PlA K H qs many v d) : PlA K H' qs many v d := by
  cases p with
  | fin h => exact .fin (Same.seqT s h)
  | deed h a b c => exact .deed (Same.seqT s h) a b c
  | ask hq h h2 a b => exact .ask hq (Same.seqT s h) (Same.seqT s h2) a b
theorem pl_next {qs : List (Str × Int)} {st : List Int} {ds : List PyData} (hst : stOk qs st) (hn : (qs.map (·.1)).Nodup) (hp : ∀ d ∈ ds, plD qs (ds.length : Int) d) : ∀ h z r, h < ds.length → goD qs st (ds.getD h .none) = some (z, r) → r.toNat < ds.length := by
  intro h z r hh g
  have eg : ds.getD h .none = ds[h] := by rw [List.getD_eq_getElem?_getD, List.getElem?_eq_getElem hh]; rfl
  rw [eg] at g
  rcases hp _ (List.getElem_mem hh) with e | ⟨z', r', e, _, h0, h1⟩ | ⟨q, hq, ns, e, hl, hx⟩
  · rw [e] at g; cases g
  · rw [e, go_do] at g
    cases g
    omega
  · obtain ⟨i, v, r2, _, _, _, _, _, _, hr, e2⟩ := go_ask (w := "ask") hst hn hq hl
    rw [e, e2] at g
    cases g
    have := hx _ hr
    omega
end Ms
namespace Ms
open PySem PySem.Spec PyProof.Rows L2
/-! ### BadSettings(e) and need_settings -/
structure ErrC (K : PySem.W.Frag) (C fE : Addr) : Prop where
  ox : OexC K C
  ini : PySem.W.findIn K (.ref C) "__init__" = some (some (.ref fE))
  ty : PySem.W.typeIn K (.ref fE) = some (.type "function")
  no : PySem.W.findIn K (.ref C) "place" = some none
def spIni (C : Addr) : Sp := fun vs H Q _ => ∃ (a : Addr) (y : V), vs = [.ref a, y] ∧ H a = some (exo a C none) ∧ ∀ dx, H dx = none → dx ≠ a → Q .non (upd (upd H dx (exd dx [("place", y)])) a (exo a C (some dx)))
def needV (d : PyData) : Option V := match d with
  | .tuple ds => if 1 ≤ ds.length ∧ ds.length ≤ 3 then (match dueGo 0 [] 1 ds with | .inl p => some (.int (p : Nat)) | .inr many => if many ≤ 12 then none else some (.str "many")) else some .non
  | _ => some .non
def spNeed (K : PySem.W.Frag) (C : Addr) : Sp := fun vs H Q E => ∃ (m l : Addr) (v : V) (d : PyData) (B b : Nat), vs = [v] ∧ Dq K H m l v d ∧ Gd B 100000 b d ∧ (needV d = none → ∀ H', Same H H' → Q v H') ∧
  ∀ u, needV d = some u → ∀ dx H', H dx = none → Same H H' → H' dx = some (.xd [("place", u)]) → E (.ref C) (some dx) H'
theorem mk_one {C : Addr} {H1 : Hp} {y : V} {Q : XK} (h : ∀ d H', H1 d = none → Same H1 H' → H' d = some (.xd [("place", y)]) → Q (.ref C) (some d) H') :
    [y].length ≤ 1000 ∧ ∀ a, H1 a = none → spIni C (.ref a :: ([y] ++ [])) (upd H1 a (exo a C none))
      (fun v H2 => v = .non ∧ ∃ (d : Addr) (fs : List (Str × V)), H2 a = some (exo a C (some d)) ∧ H2 d = some (exd d fs) ∧ H1 d = none ∧ Q (.ref C) (some d) (upd (del H2 a) d (.xd fs))) (fun _ _ _ => False) := by
  refine ⟨(by show 1 ≤ 1000; decide), fun a ha => ⟨a, y, rfl, upd_same, fun dx h1 h2 => ?_⟩⟩
  have hd : H1 dx = none := by rw [upd_ne h2] at h1; exact h1
  refine ⟨rfl, dx, [("place", y)], upd_same, by rw [upd_ne h2, upd_same], hd, h dx _ hd (fun b o e => ?_) upd_same⟩
  rw [upd_ne (ne_of_none e hd), del_ne (ne_of_none e ha), upd_ne (ne_of_none e ha), upd_ne (ne_of_none e hd), upd_ne (ne_of_none e ha)]
  exact e
section
variable {P : Program} {w : World} {K : PySem.W.Frag} {mg : Str → Option Value} {base : Heap} {fI fN fS fA fG C fE : Addr}
theorem scIn : FnScope ["self", "place"] ["self", "place"] (defScope sIni) := ⟨rfl, rfl, rfl, by decide +kernel, rfl, by decide +kernel, by decide +kernel⟩
theorem ok_ini {fd : FuncData} {qual : Str} (F : Fun K "__init__" qual sIni fE fd) (TE : ErrC K C fE) : FnOk P w K mg base CX0 1 fE fd ["self", "place"] (spIni C) := by
  refine F.ok scIn (fun vs H Q E h => ?_) (fun cdv A outer s H vs Q E hr h => ?_)
  · obtain ⟨a, y, rfl, _⟩ := h
    rfl
  · obtain ⟨a, y, rfl, e, q⟩ := h
    exact ⟨_, pss_one (ps_ost (pv 0) (pv 1)), ⟨_, rfl, _, rfl, a, C, rfl, TE.ox, TE.no, .inl ⟨e, fun dx h1 h2 => q dx h1 h2⟩⟩⟩
abbrev NPd : List Str := ["thing", "at", "setting"]
theorem scPd : FnScope NPd ["thing"] (defScope sNeed) := ⟨rfl, rfl, rfl, by decide +kernel, rfl, by decide +kernel, by decide +kernel⟩
def many (qs : List (Str × Int)) : Int := qs.foldl (fun m q => m * (q.2 + 1)) 1
theorem fold_many : ∀ (qs : List (Str × Int)) (rs : List (List Int)) (m : Int), (∀ q ∈ qs, 1 ≤ q.2 ∧ q.2 ≤ 3) → (rs.length : Int) = m → ((qs.foldl (fun rs q => widen rs (q.2 + 1).toNat) rs).length : Int) = qs.foldl (fun m q => m * (q.2 + 1)) m
  | [], rs, m, _, h => h
  | q :: qs, rs, m, hq, h => by
    refine fold_many qs (widen rs (q.2 + 1).toNat) (m * (q.2 + 1)) (fun x hx => hq x (List.mem_cons_of_mem _ hx)) ?_
    have := hq q (List.mem_cons_self ..)
    rw [widen_len, Int.natCast_mul, h]
    congr 1
    omega
theorem grid_many (qs : List (Str × Int)) (h : ∀ q ∈ qs, 1 ≤ q.2 ∧ q.2 ≤ 3) : ((grid qs).length : Int) = many qs := fold_many qs [[]] 1 h rfl
theorem ok_need {f : Addr} {fd fdI fdN fdS fdA fdG fdE : FuncData} {qual : Str} (F : Fun K "need_settings" "need_settings" sNeed f fd) (T : TxtP mg fI fN fS fA fG) (gC : mg "BadSettings" = some (.ref C)) (TE : ErrC K C fE)
    (FI : Fun K "is_int" "is_int" sPInt fI fdI) (bI : Binds K fdI ["thing"] []) (FN : Fun K "is_name" "is_name" sPName fN fdN) (bN : Binds K fdN ["thing"] []) (FS : Fun K "is_setting" "is_setting" sPSet fS fdS) (bS : Binds K fdS ["thing"] [])
    (FA : Fun K "names_of" "names_of" sPNames fA fdA) (bA : Binds K fdA ["settings"] []) (FG : Fun K "grid_of" "grid_of" sPGrid fG fdG) (bG : Binds K fdG ["settings"] []) (FE : Fun K "__init__" qual sIni fE fdE) (bE : Binds K fdE ["self", "place"] []) :
    FnOk P w K mg base (L2.CX P w) 3 f fd ["thing"] (spNeed K C) := by
  have GS : FnOk P w K mg base CX0 2 fS fdS ["thing"] (spPSet K) := ok_pset FS T FI bI FN bN
  have GA : FnOk P w K mg base CX0 1 fA fdA ["settings"] (spPNames K) := ok_pnames FA
  have GG : FnOk P w K mg base CX0 1 fG fdG ["settings"] (spPGrid K) := ok_pgrid FG T
  have GE : FnOk P w K mg base CX0 1 fE fdE ["self", "place"] (spIni C) := ok_ini FE TE
  refine F.okX scPd (fun vs H Q E h => ?_) (fun cdv A outer s H vs Q E hr h => ?_)
  · obtain ⟨m, l, v, d, B, b, rfl, _⟩ := h
    rfl
  obtain ⟨m, l, v, d, B, b, rfl, hd, gd, q, qe⟩ := h
  obtain ⟨ts, gs⟩ := T.mS
  obtain ⟨tt, gt⟩ := T.mT
  have hr1 : Room 1 _ := hr.mono (by decide)
  refine ⟨_, pss_cons (ps_if (PW.pt (pw_or (pt_not (pt_val (pe_callB call_isi (by rfl) T.isi PyProof.Rows.boot_isinstance (pa_cons (pv 0) (pa_cons (pe_bltn (v := .ty "tuple") (u := .type "tuple") (by rfl) T.tuple (by decide +kernel) rfl) pa_nil)))))
      (pw_or1 (pt_not (pt_chain op_le op_le pe_int (pe_callB call_len (by rfl) T.len PySem.boot_len (pa_cons (pv 0) pa_nil)) (pe_glob (v := .int 3) rfl gs ⟨_, rfl⟩)))))) (pss_one (ps_raise rfl (takes_of rfl rfl rfl rfl) (pmk_oex TE.ox TE.ini TE.ty GE hr bE .nil pass0 (by rfl) gC (pa_cons pe_non pa_nil)))) pss_nil)
    (pss_cons (ps_for (passes_of rfl) rfl (pi_et (by rfl) T.enumerate (pa_cons (pv 0) pa_nil)) (pg_tup rfl (pgs_cons (pg_name (i := 1) scPd.nd rfl (by first | exact Or.inl rfl | exact Or.inr rfl)) (pgs_cons (pg_name (i := 2) scPd.nd rfl (by first | exact Or.inl rfl | exact Or.inr rfl)) pgs_nil)))
      (pss_one (ps_if (PW.pt (pw_or (pt_not (pt_val (pe_call GS hr rfl T.gS FS.kp bS .nil pass0 (pa_cons (pv 2) pa_nil)))) (pw_or1 (pt_cmpR op_in_seq (pe_ix ix_tup (pv 2) pe_int (fun _ _ => rfl)) (pe_call GA hr1 rfl T.gA FA.kp bA .nil pass0 (pa_cons (pe_slice sl_tupA (pv 0) po_none (po_some (pv 1))) pa_nil)) (by rfl)))))
        (pss_one (ps_raise rfl (takes_of rfl rfl rfl rfl) (pmk_oex TE.ox TE.ini TE.ty GE hr bE .nil pass0 (by rfl) gC (pa_cons (pv 1) pa_nil)))) pss_nil)))
    (pss_cons (ps_if (pt_cmpR op_gt (pe_callB call_len_seq (by rfl) T.len PySem.boot_len (pa_cons (pe_call GG hr1 rfl T.gG FG.kp bG .nil pass0 (pa_cons (pv 0) pa_nil)) pa_nil)) (pe_glob (v := .int 12) rfl gt ⟨_, rfl⟩) (nomark _))
        (pss_one (ps_raise rfl (takes_of rfl rfl rfl rfl) (pmk_oex TE.ox TE.ini TE.ty GE hr bE .nil pass0 (by rfl) gC (pa_cons pe_str pa_nil)))) pss_nil)
    (pss_one (ps_ret (pv 0))))), ?_⟩
  refine ⟨_, rfl, v, .ty "tuple", _, _, _, rfl, .ty _, hd.ty, isi_tup K d, _, rfl, ?_⟩
  cases d with
  | tuple ds =>
    cases hd with
    | tup hp hx =>
      rename_i p xs
      refine ifF rfl ?_
      have lx := hx.len
      have none0 : ¬ (1 ≤ ds.length ∧ ds.length ≤ 3) → needV (.tuple ds) = some .non := fun h => by
        show (if 1 ≤ ds.length ∧ ds.length ≤ 3 then _ else some V.non) = some .non
        rw [if_neg h]
      refine ⟨_, rfl, .ref p, xs.length, rfl, .inr ⟨xs, hp, rfl⟩, 1, (xs.length : Int), rfl, rfl, _, rfl, ite_b (fun e1 => ⟨(xs.length : Int), 3, rfl, rfl, _, rfl, ite_b (fun e8 => mk_one (qe _ (none0 ?_))) (fun e8 => ?_)⟩) (fun e1 => ⟨_, rfl, ifT rfl (mk_one (qe _ (none0 ?_)))⟩)⟩
      · have : ¬ ((xs.length : Int) ≤ 3) := by simpa using e8
        omega
      · have l3 : (xs.length : Int) ≤ 3 := by simpa using e8
        have l1 : (1 : Int) ≤ (xs.length : Int) := of_decide_eq_true e1
        have ed : needV (.tuple ds) = (match dueGo 0 [] 1 ds with | .inl p => some (V.int (p : Nat)) | .inr many => if many ≤ 12 then none else some (.str "many")) := by
          show (if 1 ≤ ds.length ∧ ds.length ≤ 3 then _ else some V.non) = _
          rw [if_pos ⟨by omega, by omega⟩]
        refine ⟨_, rfl, p, xs, rfl, hp, ?_⟩
        refine for_it walk_et (fun i σ H1 => ∃ (qs : List (Str × Int)) (v1 v2 : Option V), σ = [some (.ref p), v1, v2] ∧ Same H H1 ∧ PrTs K H1 (xs.take i) qs ∧ (∀ q ∈ qs, 1 ≤ q.2 ∧ q.2 ≤ 3) ∧ dueGo 0 [] 1 ds = dueGo i (qs.map (·.1)) (many qs) (ds.drop i))
          ⟨[], none, none, rfl, Same.refl H, by rw [List.take_zero]; exact .nil, (fun q hq => nomatch hq), rfl⟩ (fun i σ H1 _ ⟨qs, v1, v2, _, s1, _⟩ => Same.seqT s1 hp) ?_ ?_
        · rintro i x σ H1 H2 hi ⟨qs, v1, v2, rfl, s1, pq, bq, dg⟩ ⟨TT, x1, x2, rfl, hT, rfl, e1', e2'⟩
          have ex1 : x1 = .int (i : Nat) := (Option.some.inj e1').symm
          subst ex1
          obtain ⟨e, he, dqe⟩ := hx.get e2'
          have sT : Same H1 (upd H1 TT (.tup [.int (i : Nat), x2])) := Same.upd hT
          have sA : Same H (upd H1 TT (.tup [.int (i : Nat), x2])) := s1.trans sT
          have dqA := Dq.same sA e x2 dqe
          have hid : i < ds.length := by omega
          have edr : ds.drop i = e :: ds.drop (i + 1) := by rw [List.drop_eq_getElem_cons hid]; rw [(List.getElem?_eq_some_iff.mp he).2]
          have refuse : ∀ {H3 : Hp}, Same H H3 → needV (.tuple ds) = some (.int (i : Nat)) → ∀ d H', H3 d = none → Same H3 H' → H' d = some (.xd [("place", V.int (i : Nat))]) → E (.ref C) (some d) H' := fun {H3} s3 hn d H' h1 h2 h3 =>
            qe _ hn d H' (Same.free s3 h1) (s3.trans h2) h3
          obtain ⟨cc, eb, g⟩ := Gd.untup gd
          have ge := g.at he
          have we : e.weight ≤ 100000 := by
            have := wA_at he
            have := g.wt
            omega
          refine ⟨TT, _, rfl, .inl (.inl upd_same), rfl, _, _, rfl, _, _, rfl, rfl, ?_⟩
          refine ⟨_, rfl, m, l, x2, e, _, _, rfl, dqA, ge.mono (Nat.le_refl _) we (Nat.le_refl _), fun H3 s3 => ⟨_, rfl, ?_⟩⟩
          have s03 := sA.trans s3
          cases eo : oneD e with
          | none =>
            refine ifT rfl ⟨_, rfl, mk_one (refuse s03 ?_)⟩
            rw [ed, dg, edr]
            simp only [dueGo, eo]
          | some zc =>
            obtain ⟨z, c⟩ := zc
            have le := pq.len
            obtain ⟨a, rfl, hq, cb⟩ : ∃ a, x2 = .ref a ∧ SqT K H a [.str z, .int c] ∧ 1 ≤ c ∧ c ≤ 3 := by
              have key : e = .tuple [.str z, .int c] ∧ 1 ≤ c ∧ c ≤ 3 := by
                have eo' := eo
                unfold oneD at eo'
                split at eo'
                · split at eo'
                  · rename_i hh
                    cases eo'
                    have hw := (Bool.and_eq_true _ _ ▸ hh : _ ∧ _).2
                    exact ⟨rfl, of_decide_eq_true (Bool.and_eq_true _ _ ▸ hw : _ ∧ _).1, of_decide_eq_true (Bool.and_eq_true _ _ ▸ hw : _ ∧ _).2⟩
                  · cases eo'
                · cases eo'
              obtain ⟨rfl, kb⟩ := key
              cases dqe with
              | tup h0 hy0 =>
                cases hy0 with
                | cons g0 hy1 =>
                  cases hy1 with
                  | cons g1 hy2 =>
                    cases g0
                    cases g1
                    cases hy2
                    exact ⟨_, rfl, h0, kb⟩
            refine ifF rfl ?_
            refine ⟨_, rfl, a, _, 0, .str z, rfl, rfl, Same.seqT s03 hq, rfl, ?_⟩
            refine ⟨_, rfl, _, rfl, _, rfl, slA_any (Same.seqT s03 hp) fun p4 H4 s4 c4 => ?_⟩
            rw [cut_to (by omega)] at c4
            refine ⟨p4, xs.take i, qs, rfl, c4, (pq.same (sT.trans (s3.trans s4))), (by rw [← le, List.length_take]; omega), fun D hD H5 s5 g5 => ?_⟩
            have sF := (s03.trans s4).trans s5
            refine ⟨D, _, rfl, .inl (SqL.of g5), rfl, (by simp [flatV]), _, rfl, ite_b (fun e => ⟨_, rfl, mk_one (refuse sF ?_)⟩) (fun e => ?_)⟩
            · have e' : inV (.str z) ((qs.map (·.1)).map V.str) = true := e
              rw [inV_str] at e'
              have hz := of_decide_eq_true e'
              rw [ed, dg, edr]
              simp only [dueGo, eo, if_pos hz]
            · have e' : inV (.str z) ((qs.map (·.1)).map V.str) = false := e
              rw [inV_str] at e'
              have nz := of_decide_eq_false e'
              refine ⟨qs ++ [(z, c)], _, _, rfl, sF, ?_, fun q hq' => ?_, ?_⟩
              · have e3 : xs[i]? = some (V.ref a) := e2'
                rw [List.take_succ, e3]
                exact (pq.same (sT.trans ((s3.trans s4).trans s5))).snoc ⟨a, rfl, Same.seqT sF hq⟩
              · rcases List.mem_append.mp hq' with hq' | hq'
                · exact bq q hq'
                · rw [List.mem_singleton.mp hq']; exact cb
              · rw [dg, edr]
                simp only [dueGo, eo, if_neg nz]
                unfold many
                rw [List.map_append, List.foldl_append]
                rfl
        · rintro σ H1 ⟨qs, v1, v2, rfl, s1, pq, bq, dg⟩
          rw [List.take_of_length_le (by omega)] at pq
          rw [List.drop_of_length_le (by omega)] at dg
          have le := pq.len
          have ed2 : needV (.tuple ds) = if many qs ≤ 12 then none else some (.str "many") := by
            rw [ed, dg]; rfl
          refine ⟨_, rfl, p, xs, qs, rfl, Same.seqT s1 hp, pq, by omega, bq, fun D as H2 hD s2 gD rw2 _ => ?_⟩
          have lg := rw2.length
          refine ⟨D, _, rfl, .inl (SqL.of gD), _, _, rfl, rfl, _, rfl, ite_b (fun e => mk_one fun d H' h1 h2 h3 => ?_) (fun e => ?_)⟩
          · have hm : ¬ many qs ≤ 12 := by
              have := of_decide_eq_true e
              rw [← grid_many qs bq]
              rw [List.length_map, lg] at this
              omega
            exact qe _ (by rw [ed2, if_neg hm]) d H' (Same.free (s1.trans s2) h1) ((s1.trans s2).trans h2) h3
          · have hm : many qs ≤ 12 := by
              have := of_decide_eq_false e
              rw [← grid_many qs bq]
              rw [List.length_map, lg] at this
              omega
            exact ⟨_, rfl, q (by rw [ed2, if_pos hm]) _ (s1.trans s2)⟩
      · have : ¬ ((1 : Int) ≤ (xs.length : Int)) := of_decide_eq_false e1
        omega
  | _ => exact ifT rfl (ifT rfl (mk_one (qe _ rfl)))
end
end Ms
namespace Ms
open PySem PySem.Spec PyProof.Rows L2
/-! ### == of data of any kind and a text -/
section
open PySem.SeqAt AutoSeq1 MeetsSeq
theorem dict_no_str (l : Addr) (es : Array DictEntry) (ep : Nat) (dd : Option Addr) (sl : Array (Option Value)) (b : Str) (u : Tok) :
    Meets (Builtin.«dict.__eq__» ⟨[.ref l, .str b u], []⟩) (fun _ R s => s.heap.get? l = some { cls := .type "dict", dict := dd, data := .dict es ep, slots := sl } ∧ R (.ok (.ret .notImplemented)) s) :=
  .of_wp fun prog w A R s h => by obtain ⟨hp, g, d, tk, os⟩ := s; obtain ⟨hl, h⟩ := h; have f1 := F.sub_str_dict; wp_walk using wpAny_loadPart' hl; exact ⟨_, rfl, h⟩
theorem str_no_dict (b : Str) (u : Tok) (l : Addr) (c : Value) (es : Array DictEntry) (ep : Nat) (dd : Option Addr) (sl : Array (Option Value)) :
    Meets (Builtin.«str.__eq__» ⟨[.str b u, .ref l], []⟩) (fun _ R s => s.heap.get? l = some { cls := c, dict := dd, data := .dict es ep, slots := sl } ∧ R (.ok (.ret .notImplemented)) s) :=
  .of_wp fun prog w A R s h => by obtain ⟨hp, g, d, tk, os⟩ := s; obtain ⟨hl, h⟩ := h; wp_walk using wpAny_loadPart' hl, wpAny_load hl; exact ⟨_, rfl, h⟩
variable {A : Around} {s : Shared}
theorem rc_dict_str {l : Addr} {o : Obj} {es : Array DictEntry} {ep : Nat} (b : Str) (u : Tok) (ho : s.heap.get? l = some o) (hc : o.cls = .type "dict") (hd : o.data = .dict es ep) (hu : A.units < cLine) : RcAt A s (.ref l) (.str b u) false := fun prog w E Q h => by
  obtain ⟨cls, dd, data, sl⟩ := o
  simp only at hc hd
  subst hc hd
  exact rc_eq_decline_or (k := false) ⟨_, ho, rfl⟩ rfl (by decide) F.sub_str_dict F.slot_dict_eq F.slot_str_eq_refl
    (fun _ hq => call_meets F.slot_dict_eq ⟨_, ho, rfl⟩ F.entry_dict_eq (F.args_dict_eq_2 _ _) (dict_no_str l es ep dd sl b u) ⟨ho, hq⟩)
    (fun _ hq => call_meets F.slot_str_eq_refl rfl F.entry_str_eq (F.args_str_eq_2 _ _) (str_no_dict b u l _ es ep dd sl) ⟨ho, hq⟩)
    (fun _ hq => wpAny_of_eq (rfl : isSame (.ref l) (.str b u) = pure false) hq) (.inr hu) h
theorem rc_str_dict {l : Addr} {o : Obj} {es : Array DictEntry} {ep : Nat} (b : Str) (u : Tok) (ho : s.heap.get? l = some o) (hc : o.cls = .type "dict") (hd : o.data = .dict es ep) (hu : A.units < cLine) : RcAt A s (.str b u) (.ref l) false := fun prog w E Q h => by
  obtain ⟨cls, dd, data, sl⟩ := o
  simp only at hc hd
  subst hc hd
  exact rc_eq_decline_or (k := false) rfl ⟨_, ho, rfl⟩ (by decide) F.sub_dict_str F.slot_str_eq F.slot_dict_eq_refl
    (fun _ hq => call_meets F.slot_str_eq rfl F.entry_str_eq (F.args_str_eq_2 _ _) (str_no_dict b u l _ es ep dd sl) ⟨ho, hq⟩)
    (fun _ hq => call_meets F.slot_dict_eq_refl ⟨_, ho, rfl⟩ F.entry_dict_eq (F.args_dict_eq_2 _ _) (dict_no_str l es ep dd sl b u) ⟨ho, hq⟩)
    (fun _ hq => wpAny_of_eq (rfl : isSame (.str b u) (.ref l) = pure false) hq) (.inr hu) h
end
/-- whether data is this text -/
def isTxt (d : PyData) (w : Str) : Bool := match d with | .str z => z == w | _ => false
section
open PySem.SeqAt
variable {X : Cx} {pins : List (Addr × Obj)} {σ : L2.St} {H : Hp} {s : Shared} {m l : Addr}
theorem Dq.rcTxt (I : Inv X pins σ H s) {A : Around} (hu : A.units < cLine) {v : V} {d : PyData} {u : Value} (h : Dq X.K H m l v d) (r : RelV v u) (w : Str) (t : Tok) : RcAt A s u (.str w t) (isTxt d w) ∧ RcAt A s (.str w t) u (isTxt d w) := by
  cases h with
  | non => cases r; exact ⟨RcAt.none_str w t, RcAt.str_none w t⟩
  | bl b => cases r; exact ⟨RcAt.bool_str b w t, RcAt.str_bool w t b⟩
  | int i => obtain ⟨t', rfl⟩ := r; exact ⟨RcAt.int_str i t' w t, RcAt.str_int w t i t'⟩
  | str z =>
    obtain ⟨t', rfl⟩ := r
    have e : (w == z) = (z == w) := by rw [Bool.eq_iff_iff, beq_iff_eq, beq_iff_eq]; exact eq_comm
    exact ⟨RcAt.str_str z t' w t, by show RcAt A s (.str w t) (.str z t') (z == w); rw [← e]; exact RcAt.str_str w t z t'⟩
  | lst e n1 n2 g =>
    cases r
    obtain ⟨its, rv, p, _⟩ := I.list (SqL.of e)
    exact ⟨RcAt.list_str w t p.isList hu, RcAt.str_list w t p.isList hu⟩
  | tup e g =>
    cases r
    obtain ⟨its, rv, p, _⟩ := I.tuple e
    exact ⟨RcAt.tuple_str w t p hu, RcAt.str_tuple w t p hu⟩
  | dct e n1 n2 =>
    cases r
    obtain ⟨z, hd, vs, rel, dd⟩ := dk_of I.hok e
    obtain ⟨o, es, ep, ho, hc, hdat, hlay⟩ := id dd
    exact ⟨rc_dict_str w t ho hc.1 hdat hu, rc_str_dict w t ho hc.1 hdat hu⟩
theorem Dq.eqTxt (I : Inv X pins σ H s) {A : Around} (hu : A.units < cLine) {v : V} {d : PyData} {u : Value} (h : Dq X.K H m l v d) (r : RelV v u) (w : Str) (t : Tok) : EqAt A s u (.str w t) (isTxt d w) := by
  cases h with
  | non => cases r; exact EqAt.none_str w t
  | bl b => cases r; exact EqAt.bool_str b w t
  | int i => obtain ⟨t', rfl⟩ := r; exact EqAt.int_str i t' w t
  | str z => obtain ⟨t', rfl⟩ := r; exact EqAt.str_str z t' w t
  | lst e n1 n2 g =>
    cases r
    obtain ⟨its, rv, p, _⟩ := I.list (SqL.of e)
    exact EqAt.list_str w t p.isList hu
  | tup e g =>
    cases r
    obtain ⟨its, rv, p, _⟩ := I.tuple e
    exact EqAt.tuple_str w t p hu
  | dct e n1 n2 =>
    cases r
    obtain ⟨z, hd, vs, rel, dd⟩ := dk_of I.hok e
    obtain ⟨o, es, ep, ho, hc, hdat, hlay⟩ := id dd
    intro prog w' E Q' hq
    unfold eqBool
    refine wpAny_holding ?_
    refine wpAny_ite_split (fun hab => absurd (eq_of_beq hab) nofun) (fun _ => ?_)
    exact wpAny_bind (rc_dict_str w t ho hc.1 hdat hu prog w' E _ (wpAny_truthy_bool hq))
end
section
variable {X : Cx}
/-- data == a text -/
def rEqT (K : PySem.W.Frag) : R2 := fun x y H Q => ∃ d m l w, Dq K H m l x d ∧ y = .str w ∧ Q (.bl (isTxt d w)) H
/-- a text == data -/
def rTEq (K : PySem.W.Frag) : R2 := fun x y H Q => ∃ d m l w, x = .str w ∧ Dq K H m l y d ∧ Q (.bl (isTxt d w)) H
theorem op_eqT (hu : X.A.units + 64 < cLine) : OpR X (compareOp .Eq) (rEqT X.K) := by
  intro pins s σ H x y v u Q I rx ry h
  obtain ⟨d, m, l, w, hd, rfl, q⟩ := h
  obtain ⟨t, rfl⟩ := ry
  exact (hd.rcTxt I (A := X.A) (by omega) rx w t).1 X.prog X.w _ _ ⟨.bl _, H, I, rfl, q⟩
theorem op_Teq (hu : X.A.units + 64 < cLine) : OpR X (compareOp .Eq) (rTEq X.K) := by
  intro pins s σ H x y v u Q I rx ry h
  obtain ⟨d, m, l, w, rfl, hd, q⟩ := h
  obtain ⟨t, rfl⟩ := rx
  exact (hd.rcTxt I (A := X.A) (by omega) ry w t).2 X.prog X.w _ _ ⟨.bl _, H, I, rfl, q⟩
/-- a tuple of data == a tuple of one text -/
def isEnd (d : PyData) (w : Str) : Bool := match d with | .tuple [x] => isTxt x w | _ => false
def rEqE (K : PySem.W.Frag) : R2 := fun x y H Q => ∃ a b m l xs ds w, x = .ref a ∧ y = .ref b ∧ SqT K H a xs ∧ DqAll K H m l xs ds ∧ SqT K H b [.str w] ∧ Q (.bl (isEnd (.tuple ds) w)) H
theorem op_eqE (hu : X.A.units + 64 < cLine) : OpR X (compareOp .Eq) (rEqE X.K) := by
  intro pins s σ H x y v u Q I rx ry h
  obtain ⟨a, b, m, l, xs, ds, w, rfl, rfl, ha, hx, hb, q⟩ := h
  cases rx
  cases ry
  obtain ⟨its, r1, p1, _⟩ := I.tuple ha
  obtain ⟨its2, r2, p2, _⟩ := I.tuple hb
  obtain ⟨t, e2⟩ : ∃ t, its2 = [Value.str w t] := by
    cases r2 with
    | cons r r' =>
      cases r'
      obtain ⟨t, rfl⟩ := r
      exact ⟨t, rfl⟩
  subst e2
  have hl := r1.length
  have ln := hx.len
  cases xs with
  | nil =>
    cases r1
    have ed : ds = [] := by cases ds with | nil => rfl | cons _ _ => simp at ln
    subst ed
    exact PySem.SeqAt.eq_tupleAt (e := fun _ => true) p1 p2 (by omega) (fun j h1 _ => by simp at h1) ⟨.bl _, H, I, rfl, q⟩
  | cons x0 xr =>
    cases r1 with
    | @cons _ u0 _ ur ra rr =>
    cases hx with
    | @cons _ _ d0 dr g0 gr =>
    have at0 : PySem.SeqAt.EqAt X.A.in1 s u0 (.str w t) (isTxt d0 w) := g0.eqTxt I (A := X.A.in1) (by show X.A.units + 1 < cLine; omega) ra w t
    refine PySem.SeqAt.eq_tupleAt (e := fun _ => isTxt d0 w) p1 p2 (by omega) (fun j h1 h2 => ?_) ?_
    · have ej : j = 0 := by simp at h2; omega
      subst ej
      simpa using at0
    · have ev : ((List.range (min (u0 :: ur).toArray.size [Value.str w t].toArray.size)).all (fun _ => isTxt d0 w) && (u0 :: ur).toArray.size == [Value.str w t].toArray.size) = isEnd (.tuple (d0 :: dr)) w := by
        have l2 : ur.length = dr.length := by
          have := rr.length
          have := gr.len
          omega
        have e1 : (u0 :: ur).toArray.size = ur.length + 1 := by simp
        have e2 : [Value.str w t].toArray.size = 1 := by simp
        have e3 : min (ur.length + 1) 1 = 1 := by omega
        rw [e1, e2, e3, l2]
        cases dr with
        | nil => simp [isEnd, List.range, List.range.loop]
        | cons d1 d2 => simp [isEnd]
      rw [ev]
      exact ⟨.bl _, H, I, rfl, q⟩
end
end Ms
namespace Ms
open PySem PySem.Spec PyProof.Rows L2
/-! ### tuple * n, n from 1 on -/
section
open AutoSeq1 MeetsSeq
theorem tuple_mul1 (l : Addr) (items : Array Value) (n : Nat) (dd : Option Addr) (sl : Array (Option Value)) (u : Tok) :
    Meets (Builtin.«tuple.__mul__» ⟨[.ref l, .int 1 u], []⟩) (fun _ R s => s.heap.get? l = some { cls := .type "tuple", dict := dd, data := .seq items n, slots := sl } ∧ R (.ok (.ret (Value.ref l))) s) :=
  .of_wp fun prog w A R s h => by
    obtain ⟨hp, g, d, tk, os⟩ := s
    obtain ⟨hl, h⟩ := h
    have f1 := AutoSeq1.idx_int
    have c1 : (items.isEmpty || ((1 : Int) == 1)) = true := by simp
    wp_walk using wpAny_loadPart' hl
    repeat (first
      | (refine wpAny_ite_true (decide_eq_true c1) ?_; wp_walk using wpAny_loadPart' hl)
      | (refine wpAny_ite_false (by decide) ?_; wp_walk using wpAny_loadPart' hl))
    exact ⟨_, rfl, h⟩
end
def rRep1 (K : PySem.W.Frag) : R2 := fun x y H Q => ∃ l k xs, x = .ref l ∧ y = .int k ∧ SqT K H l xs ∧ xs ≠ [] ∧ 1 ≤ k ∧ k ≤ 1000 ∧ xs.length ≤ 1000 ∧ (k = 1 → Q (.ref l) H) ∧ (2 ≤ k → ∀ p, H p = none → Q (.ref p) (upd H p (.tup (List.replicate k.toNat xs).flatten)))
section
variable {X : Cx}
theorem op_rep1 : OpR X (binaryOp .Mult) (rRep1 X.K) := by
  intro pins s σ H x y v u Q I rx ry h
  obtain ⟨l, k, xs, rfl, rfl, hT, hne, h1, h2, hz, q1, q2⟩ := h
  by_cases hk : 2 ≤ k
  · exact op_repT pins s σ H _ _ v u Q I rx ry ⟨l, k, xs, rfl, rfl, hT, hne, hk, h2, hz, q2 hk⟩
  · obtain rfl : k = 1 := by omega
    cases rx
    obtain ⟨t, rfl⟩ := ry
    obtain ⟨its, r, ⟨⟨cls, dd, data, sl⟩, ho, hc, n, hd⟩, hs⟩ := I.tuple hT
    simp only at hc hd
    subst hc hd
    exact wpAny_binaryOp_repeat_ref (T := "tuple") (U := "int") (by decide) ⟨_, ho, rfl⟩ (fun s' => typeIs_int s' 1 t) noFill_tuple_mul F.fills_int_mul F.slot_int_rmul repeat_tuple F.slot_int_index.lookup
      (call_meets F.slot_int_rmul (typeIs_int s 1 t) F.entry_int_rmul (F.args_int_rmul_2 _ _) (int_rmul_tuple 1 t l its.toArray n dd sl)
        ⟨ho, rfl, ⟨_, ho, rfl⟩, call_meets F.slot_tuple_mul ⟨_, ho, rfl⟩ F.entry_tuple_mul (F.args_tuple_mul_2 _ _) (tuple_mul1 l its.toArray n dd sl t) ⟨ho, ⟨.ref l, H, I, rfl, q1 rfl⟩⟩⟩)
end
end Ms
namespace Ms
open PySem PySem.Spec PyProof.Rows L2
/-! ### the package's requests: is_number, is_ask, is_place, is_mode -/
structure TxtR (mg : Str → Option Value) (fI fN fS fA fG fNu fAs fPl fMo fNP fNM fNd aE aM : Addr) : Prop extends TxtP mg fI fN fS fA fG where
  gNu : mg "is_number" = some (.ref fNu)
  gAs : mg "is_ask" = some (.ref fAs)
  gPl : mg "is_place" = some (.ref fPl)
  gMo : mg "is_mode" = some (.ref fMo)
  gNP : mg "need_places" = some (.ref fNP)
  gNM : mg "need_modes" = some (.ref fNM)
  gNd : mg "need_settings" = some (.ref fNd)
  gE : mg "END" = some (.ref aE)
  gM : mg "MODES" = some (.ref aM)
  mP : ∃ t, mg "MOST_PLACES" = some (.int 16 t)
def nextsD (n k : Int) (d : PyData) : Bool := match d with
  | .tuple es => decide ((es.length : Int) = k + 1) && es.all fun e => isWhole e 0 (n - 1)
  | _ => false
def askD (n : Int) (d1 d2 : PyData) : List (Str × Int) → Bool
  | [] => false
  | q :: qs => if isTxt d1 q.1 = true then nextsD n q.2 d2 else askD n d1 d2 qs
def placeD (qs : List (Str × Int)) (n : Int) (d : PyData) : Bool := match d with
  | .tuple ds => if ds.length = 3 ∧ isTxt (ds.getD 0 .none) "do" = true then isName (ds.getD 1 .none) && isWhole (ds.getD 2 .none) 0 (n - 1)
      else if ds.length = 3 ∧ isTxt (ds.getD 0 .none) "ask" = true then askD n (ds.getD 1 .none) (ds.getD 2 .none) qs
      else isEnd (.tuple ds) "end"
  | _ => false
def isMode (d : PyData) : Bool := match d with | .str z => decide (z ∈ (["live", "met", "begin"] : List Str)) | _ => false
section
variable {P : Program} {w : World} {K : PySem.W.Frag} {mg : Str → Option Value} {base : Heap} {fI fN fS fA fG fNu fAs fPl fMo fNP fNM fNd aE aM : Addr}
theorem scNu : FnScope ["many", "thing"] ["many", "thing"] (defScope sPNum) := ⟨rfl, rfl, rfl, by decide +kernel, rfl, by decide +kernel, by decide +kernel⟩
def spNum (K : PySem.W.Frag) : Sp := fun vs H Q _ => ∃ (m l : Addr) (v : V) (d : PyData) (n : Int), vs = [.int n, v] ∧ Dq K H m l v d ∧ Q (.bl (isWhole d 0 (n - 1))) H
theorem ok_num {f : Addr} {fd fdI : FuncData} (F : Fun K "is_number" "is_number" sPNum f fd) (T : TxtP mg fI fN fS fA fG) (FI : Fun K "is_int" "is_int" sPInt fI fdI) (bI : Binds K fdI ["thing"] []) : FnOk P w K mg base CX0 2 f fd ["many", "thing"] (spNum K) := by
  have GI : FnOk P w K mg base CX0 1 fI fdI ["thing"] (spPInt K) := ok_pint FI T
  refine F.ok scNu (fun vs H Q E h => ?_) (fun cdv A outer s H vs Q E hr h => ?_)
  · obtain ⟨m, l, v, d, n, rfl, _⟩ := h
    rfl
  · obtain ⟨m, l, v, d, n, rfl, hd, q⟩ := h
    refine ⟨_, pss_one (ps_ret (pe_and (pe_call GI hr rfl T.gI FI.kp bI .nil pass0 (pa_cons (pv 1) pa_nil)) (pe_one (pe_chain op_le op_lt pe_int (pv 1) (pv 0))))), ?_⟩
    refine ⟨_, rfl, m, l, v, d, rfl, hd, _, rfl, ite_b (fun e => ?_) (fun e => ?_)⟩
    · obtain ⟨j, rfl⟩ : ∃ j, d = .int j := by
        cases d <;> first | exact ⟨_, rfl⟩ | cases e
      cases hd
      refine ⟨_, rfl, 0, j, rfl, rfl, _, rfl, ite_b (fun e1 => ⟨_, rfl, j, n, rfl, rfl, ?_⟩) (fun e1 => ?_)⟩
      · have z : isWhole (.int j) 0 (n - 1) = decide (j < n) := by
          show (decide (0 ≤ j) && decide (j ≤ n - 1)) = _
          rw [e1, Bool.true_and, Bool.eq_iff_iff, decide_eq_true_eq, decide_eq_true_eq]; omega
        rw [z] at q; exact q
      · have z : isWhole (.int j) 0 (n - 1) = false := by show (decide (0 ≤ j) && decide (j ≤ n - 1)) = _; rw [e1]; rfl
        rw [z] at q; exact q
    · rw [isWhole_int d 0 (n - 1) e] at q
      exact q
/-! is_ask -/
abbrev NAs : List Str := ["settings", "many", "setting", "nexts", "name", "most", "right", "number"]
theorem scAs : FnScope NAs ["settings", "many", "setting", "nexts"] (defScope sPAsk) := ⟨rfl, rfl, rfl, by decide +kernel, rfl, by decide +kernel, by decide +kernel⟩
def spAsk (K : PySem.W.Frag) : Sp := fun vs H Q _ => ∃ (m l a : Addr) (xs : List V) (qs : List (Str × Int)) (n : Int) (v1 v2 : V) (d1 d2 : PyData), vs = [.ref a, .int n, v1, v2] ∧ SqT K H a xs ∧ PrTs K H xs qs ∧ Dq K H m l v1 d1 ∧ Dq K H m l v2 d2 ∧
  (∀ es, d2 = .tuple es → es.length ≤ 100000) ∧ ∀ H', Same H H' → Q (.bl (askD n d1 d2 qs)) H'
theorem ok_ask {f : Addr} {fd fdI fdNu : FuncData} (F : Fun K "is_ask" "is_ask" sPAsk f fd) (T : TxtR mg fI fN fS fA fG fNu fAs fPl fMo fNP fNM fNd aE aM) (FI : Fun K "is_int" "is_int" sPInt fI fdI) (bI : Binds K fdI ["thing"] [])
    (FNu : Fun K "is_number" "is_number" sPNum fNu fdNu) (bNu : Binds K fdNu ["many", "thing"] []) : FnOk P w K mg base CX0 3 f fd ["settings", "many", "setting", "nexts"] (spAsk K) := by
  have GNu : FnOk P w K mg base CX0 2 fNu fdNu ["many", "thing"] (spNum K) := ok_num FNu T.toTxtP FI bI
  refine F.ok scAs (fun vs H Q E h => ?_) (fun cdv A outer s H vs Q E hr h => ?_)
  · obtain ⟨m, l, a, xs, qs, n, v1, v2, d1, d2, rfl, _⟩ := h
    rfl
  · obtain ⟨m, l, a, xs, qs, n, v1, v2, d1, d2, rfl, hs, hp, h1, h2, hz, q⟩ := h
    refine ⟨_, pss_cons (ps_for PassesOwn.never rfl (pi_tup (pv 0)) (pg_tup rfl (pgs_cons (pg_name (i := 4) scAs.nd rfl (by first | exact Or.inl rfl | exact Or.inr rfl)) (pgs_cons (pg_name (i := 5) scAs.nd rfl (by first | exact Or.inl rfl | exact Or.inr rfl)) pgs_nil)))
        (pss_one (ps_if (pt_cmpR (op_Teq hr.units) (pv 4) (pv 2) (nomark _))
          (pss_cons (ps_set (i := 6) scAs.nd rfl (by first | exact Or.inl rfl | exact Or.inr rfl) (pe_and (pe_callB call_isi (by rfl) T.isi PyProof.Rows.boot_isinstance (pa_cons (pv 3) (pa_cons (pe_bltn (v := .ty "tuple") (u := .type "tuple") (by rfl) T.tuple (by decide +kernel) rfl) pa_nil))) (pe_one (pe_cmpR op_eq (pe_callB call_len (by rfl) T.len PySem.boot_len (pa_cons (pv 3) pa_nil)) (pe_op op_add (pv 5) pe_int) (nomark _)))))
          (pss_one (ps_ret (pe_and (pv 6) (pe_one (pe_callB (cr_all rfl) (by rfl) T.all (by decide +kernel) (pa_cons (pe_lc (own := [("number", 7)]) (g := gName 7) (by rfl) scAs.nd (pi_tup (pv 3)) (blkOk_by (own := [("number", 7)]) (N := NAs) (sc := defScope sPAsk) (by decide +kernel))
            (fun _ _ _ _ _ => pg_name (i := 7) scAs.nd rfl (Or.inl rfl)) (fun _ _ _ _ _ => pts_nil) (fun _ _ _ _ _ => pe_call GNu hr (by rfl) T.gNu FNu.kp bNu .nil pass0 (pa_cons (pv 1) (pa_cons (pv 7) pa_nil)))) pa_nil)))))))
          pss_nil)))
      (pss_one (ps_ret pe_bl)), ?_⟩
    have ll := hp.len
    refine ⟨_, rfl, a, rfl, ⟨_, hs⟩, ?_⟩
    refine for_it (walk_tup (xs := xs)) (fun i σ H2 => ∃ v4 v5 : Option V, σ = [some (.ref a), some (.int n), some v1, some v2, v4, v5, none, none] ∧ Same H H2 ∧ askD n d1 d2 qs = askD n d1 d2 (qs.drop i)) ⟨none, none, rfl, Same.refl H, rfl⟩ (fun i σ H2 _ ⟨_, _, _, s2, _⟩ => Same.seqT s2 hs) ?_ ?_
    · rintro i x σ H2 H3 hi ⟨v4, v5, rfl, s2, ed⟩ ⟨rfl, hx⟩
      obtain ⟨qq, hq, b, rfl, hb⟩ := hp.get hx
      have hiq : i < qs.length := by omega
      have edr : qs.drop i = qq :: qs.drop (i + 1) := by rw [List.drop_eq_getElem_cons hiq]; rw [(List.getElem?_eq_some_iff.mp hq).2]
      have e1 := Dq.same s2 d1 v1 h1
      have e2 := Dq.same s2 d2 v2 h2
      refine ⟨b, _, rfl, Same.seqT s2 hb, rfl, _, _, rfl, _, _, rfl, rfl, ?_⟩
      refine ⟨_, rfl, _, rfl, d1, m, l, qq.1, rfl, e1, _, rfl, ite_b (fun e => ?_) (fun e => ?_)⟩
      · have ea : askD n d1 d2 qs = nextsD n qq.2 d2 := by
          rw [ed, edr]; simp only [askD, if_pos e]
        refine ⟨_, rfl, v2, .ty "tuple", _, _, _, rfl, .ty _, e2.ty, isi_tup K d2, _, rfl, ?_⟩
        cases d2 with
        | tuple es =>
          cases e2 with
          | tup g2 gx =>
            rename_i p ys
            have ly := gx.len
            have lz := hz es rfl
            refine ifT rfl ⟨_, rfl, .ref p, ys.length, rfl, .inr ⟨ys, g2, rfl⟩, _, rfl, qq.2, 1, rfl, rfl, rfl, ?_⟩
            have ek : decide (V.int ((ys.length : Nat) : Int) = V.int (qq.2 + 1)) = decide ((es.length : Int) = qq.2 + 1) := by
              rw [Bool.eq_iff_iff, decide_eq_true_eq, decide_eq_true_eq, V.int.injEq, ly]
            refine ⟨_, rfl, _, rfl, ite_b (fun ee => ?_) (fun ee => ?_)⟩
            · rw [ek] at ee
              refine ⟨_, rfl, p, rfl, ⟨_, g2⟩, fun D hD => ?_⟩
              have sD : ∀ o, Same H3 (upd H3 D o) := fun o => Same.upd hD
              refine lc_it (walk_tup (xs := ys)) (fun j H4 => H4 = upd H3 D (.lst (((es.take j).map fun e => isWhole e 0 (n - 1)).map V.bl))) rfl (fun j H4 _ e4 => by rw [e4]; exact Same.seqT (sD _) g2) ?_ ?_
              · rintro j y H4 H5 hj e4 ⟨rfl, hy⟩
                obtain ⟨e, he, dqe⟩ := gx.get hy
                have ti : es.take (j + 1) = es.take j ++ [e] := by rw [List.take_succ, he]; rfl
                refine ⟨rfl, tyes ⟨_, rfl, _, rfl, m, l, y, e, n, rfl, by rw [e4]; exact Dq.same (sD _) e y dqe, _, by rw [e4]; exact upd_same, ?_, ?_⟩⟩
                · rw [List.length_map, List.length_map, List.length_take, sizeLine_eq]; omega
                · show upd H5 D _ = _
                  rw [e4, upd_upd, ti, List.map_append, List.map_append]; rfl
              · rintro H4 e4
                rw [List.take_of_length_le (by omega)] at e4
                refine ⟨D, _, rfl, SqL.of (by rw [e4, upd_same]), ?_⟩
                have ev : askD n d1 (.tuple es) qs = (es.map fun e => isWhole e 0 (n - 1)).all id := by
                  rw [ea, List.all_map]; simp only [nextsD, ee, Bool.true_and]; rfl
                rw [ev] at q
                exact q _ (s2.trans (e4 ▸ sD _))
            · rw [ek] at ee
              have ev : askD n d1 (.tuple es) qs = false := by rw [ea]; simp only [nextsD, ee, Bool.false_and]
              rw [ev] at q
              exact q _ s2
        | _ =>
          refine ifF rfl ⟨_, rfl, _, rfl, ifF rfl ?_⟩
          rw [ea] at q
          exact q _ s2
      · refine ⟨_, _, rfl, s2, ?_⟩
        rw [ed, edr]
        have e' : isTxt d1 qq.1 = false := e
        simp only [askD, e', if_neg Bool.false_ne_true]
    · rintro σ H2 ⟨v4, v5, rfl, s2, ed⟩
      rw [List.drop_of_length_le (by omega)] at ed
      rw [ed] at q
      exact q _ s2
end
end Ms
namespace Ms
open PySem PySem.Spec PyProof.Rows L2
section
variable {P : Program} {w : World} {K : PySem.W.Frag} {mg : Str → Option Value} {base : Heap} {fI fN fS fA fG fNu fAs fPl fMo fNP fNM fNd aE aM : Addr}
/-- the written tuples END and MODES -/
structure WrT (K : PySem.W.Frag) (aE aM : Addr) : Prop where
  e : ∀ H, SqT K H aE [.str "end"]
  m : ∀ H, SqT K H aM [.str "live", .str "met", .str "begin"]
theorem len3 {n : Nat} : decide (V.int ((n : Nat) : Int) = V.int 3) = decide (n = 3) := by
  rw [Bool.eq_iff_iff, decide_eq_true_eq, decide_eq_true_eq, V.int.injEq]; omega
theorem scPl : FnScope ["settings", "many", "thing"] ["settings", "many", "thing"] (defScope sPPlace) := ⟨rfl, rfl, rfl, by decide +kernel, rfl, by decide +kernel, by decide +kernel⟩
def spPlace (K : PySem.W.Frag) : Sp := fun vs H Q _ => ∃ (m l a : Addr) (xs : List V) (qs : List (Str × Int)) (n : Int) (v : V) (d : PyData) (B b : Nat), vs = [.ref a, .int n, v] ∧ SqT K H a xs ∧ PrTs K H xs qs ∧ Dq K H m l v d ∧ Gd B 100000 b d ∧
  ∀ H', Same H H' → Q (.bl (placeD qs n d)) H'
theorem ok_place {f : Addr} {fd fdI fdN fdNu fdAs : FuncData} (F : Fun K "is_place" "is_place" sPPlace f fd) (T : TxtR mg fI fN fS fA fG fNu fAs fPl fMo fNP fNM fNd aE aM) (W : WrT K aE aM) (FI : Fun K "is_int" "is_int" sPInt fI fdI) (bI : Binds K fdI ["thing"] [])
    (FN : Fun K "is_name" "is_name" sPName fN fdN) (bN : Binds K fdN ["thing"] []) (FNu : Fun K "is_number" "is_number" sPNum fNu fdNu) (bNu : Binds K fdNu ["many", "thing"] []) (FAs : Fun K "is_ask" "is_ask" sPAsk fAs fdAs) (bAs : Binds K fdAs ["settings", "many", "setting", "nexts"] []) :
    FnOk P w K mg base CX0 4 f fd ["settings", "many", "thing"] (spPlace K) := by
  have GN : FnOk P w K mg base CX0 1 fN fdN ["thing"] (spName K) := ok_pname FN T.toTxtP
  have GNu : FnOk P w K mg base CX0 2 fNu fdNu ["many", "thing"] (spNum K) := ok_num FNu T.toTxtP FI bI
  have GAs : FnOk P w K mg base CX0 3 fAs fdAs ["settings", "many", "setting", "nexts"] (spAsk K) := ok_ask FAs T FI bI FNu bNu
  refine F.ok scPl (fun vs H Q E h => ?_) (fun cdv A outer s H vs Q E hr h => ?_)
  · obtain ⟨m, l, a, xs, qs, n, v, d, B, b, rfl, _⟩ := h
    rfl
  · obtain ⟨m, l, a, xs, qs, n, v, d, B, b, rfl, hs, hp, hd, gd, q⟩ := h
    have hr1 : Room 1 _ := hr.mono (by decide)
    have hr2 : Room 2 _ := hr.mono (by decide)
    refine ⟨_, pss_cons (ps_if (pt_not (pt_val (pe_callB call_isi (by rfl) T.isi PyProof.Rows.boot_isinstance (pa_cons (pv 2) (pa_cons (pe_bltn (v := .ty "tuple") (u := .type "tuple") (by rfl) T.tuple (by decide +kernel) rfl) pa_nil))))) (pss_one (ps_ret pe_bl)) pss_nil)
      (pss_cons (ps_if (PW.pt (pw_and (pt_cmpR op_eq (pe_callB call_len (by rfl) T.len PySem.boot_len (pa_cons (pv 2) pa_nil)) pe_int (nomark _)) (pw_and1 (pt_cmpR (op_eqT hr.units) (pe_ix ix_tup (pv 2) pe_int (fun _ _ => rfl)) pe_str (nomark _)))))
        (pss_one (ps_ret (pe_and (pe_call GN hr1 rfl T.gN FN.kp bN .nil pass0 (pa_cons (pe_ix ix_tup (pv 2) pe_int (fun _ _ => rfl)) pa_nil)) (pe_one (pe_call GNu hr2 rfl T.gNu FNu.kp bNu .nil pass0 (pa_cons (pv 1) (pa_cons (pe_ix ix_tup (pv 2) pe_int (fun _ _ => rfl)) pa_nil))))))) pss_nil)
      (pss_cons (ps_if (PW.pt (pw_and (pt_cmpR op_eq (pe_callB call_len (by rfl) T.len PySem.boot_len (pa_cons (pv 2) pa_nil)) pe_int (nomark _)) (pw_and1 (pt_cmpR (op_eqT hr.units) (pe_ix ix_tup (pv 2) pe_int (fun _ _ => rfl)) pe_str (nomark _)))))
        (pss_one (ps_ret (pe_call GAs hr rfl T.gAs FAs.kp bAs .nil pass0 (pa_cons (pv 0) (pa_cons (pv 1) (pa_cons (pe_ix ix_tup (pv 2) pe_int (fun _ _ => rfl)) (pa_cons (pe_ix ix_tup (pv 2) pe_int (fun _ _ => rfl)) pa_nil))))))) pss_nil)
      (pss_one (ps_ret (pe_cmpR (op_eqE hr.units) (pv 2) (pe_glob (v := .ref aE) rfl T.gE rfl) (nomark _)))))), ?_⟩
    refine ⟨_, rfl, v, .ty "tuple", _, _, _, rfl, .ty _, hd.ty, isi_tup K d, _, rfl, ?_⟩
    cases d with
    | tuple ds =>
      cases hd with
      | tup h0 hx =>
        rename_i p ys
        have ly := hx.len
        obtain ⟨cc, eb, g⟩ := Gd.untup gd
        refine ifF rfl ?_
        have notend : ∀ H', Same H H' → Q (.bl (isEnd (.tuple ds) "end")) H' → SqT K H' p ys ∧ DqAll K H' m l ys ds := fun H' s' _ => ⟨Same.seqT s' h0, DqAll.same s' ds ys hx⟩
        refine ⟨_, rfl, .ref p, ys.length, rfl, .inr ⟨ys, h0, rfl⟩, rfl, _, rfl, ?_⟩
        rw [len3]
        by_cases l3 : ys.length = 3
        · obtain ⟨y0, y1, y2, rfl⟩ : ∃ y0 y1 y2, ys = [y0, y1, y2] := by
            match ys, l3 with
            | [y0, y1, y2], _ => exact ⟨y0, y1, y2, rfl⟩
          obtain ⟨e0, e1, e2, rfl⟩ : ∃ e0 e1 e2, ds = [e0, e1, e2] := by
            match ds, ly with
            | [e0, e1, e2], _ => exact ⟨e0, e1, e2, rfl⟩
          have p0 : placeD qs n (.tuple [e0, e1, e2]) = if isTxt e0 "do" = true then isName e1 && isWhole e2 0 (n - 1) else if isTxt e0 "ask" = true then askD n e1 e2 qs else false := by
            simp only [placeD, isEnd, List.length_cons, List.length_nil, List.getD_cons_zero, List.getD_cons_succ, true_and]
          rw [p0] at q
          obtain ⟨d0, d1, d2⟩ : Dq K H m l y0 e0 ∧ Dq K H m l y1 e1 ∧ Dq K H m l y2 e2 := by
            cases hx with
            | cons a0 h1 => cases h1 with | cons a1 h2 => cases h2 with | cons a2 _ => exact ⟨a0, a1, a2⟩
          have w1 : ∀ z, e1 = .str z → sOk 100000 z := fun z ez => by
            have gz := g.at (i := 1) (d := e1) rfl
            rw [ez] at gz
            have ww := g.wt
            refine gz.unstr.mono ?_
            rw [ez] at ww
            simp only [PyData.weightAll, PyData.weight] at ww ⊢
            omega
          have w2 : ∀ es, e2 = .tuple es → es.length ≤ 100000 := fun es ez => by
            have ww := g.wt
            rw [ez] at ww
            simp only [PyData.weightAll, PyData.weight] at ww
            have := wA_len es
            omega
          refine ifT (by simp) ?_
          refine ⟨_, rfl, p, _, 0, y0, rfl, rfl, h0, rfl, e0, m, l, "do", d0, rfl, _, rfl, ite_b (fun e => ?_) (fun e => ?_)⟩
          · rw [if_pos e] at q
            refine ⟨_, rfl, p, _, 1, y1, rfl, rfl, h0, rfl, m, l, y1, e1, rfl, d1, w1, fun H3 s3 => ⟨_, rfl, ite_b (fun e => ?_) (fun e => ?_)⟩⟩
            · refine ⟨_, rfl, _, rfl, p, _, 2, y2, rfl, rfl, Same.seqT s3 h0, rfl, m, l, y2, e2, n, rfl, Dq.same s3 e2 y2 d2, ?_⟩
              rw [e, Bool.true_and] at q
              exact q _ s3
            · rw [e, Bool.false_and] at q
              exact q _ s3
          · rw [if_neg (by rw [e]; exact Bool.false_ne_true)] at q
            refine ⟨_, rfl, .ref p, 3, rfl, .inr ⟨_, h0, rfl⟩, rfl, _, rfl, ifT (by decide) ?_⟩
            refine ⟨_, rfl, p, _, 0, y0, rfl, rfl, h0, rfl, e0, m, l, "ask", d0, rfl, _, rfl, ite_b (fun e' => ?_) (fun e' => ?_)⟩
            · rw [if_pos e'] at q
              exact ⟨_, rfl, _, rfl, _, rfl, p, _, 1, y1, rfl, rfl, h0, rfl, _, rfl, p, _, 2, y2, rfl, rfl, h0, rfl, m, l, a, xs, qs, n, y1, y2, e1, e2, rfl, hs, hp, d1, d2, w2, q⟩
            · rw [if_neg (by rw [e']; exact Bool.false_ne_true)] at q
              exact ⟨_, rfl, p, aE, m, l, _, [e0, e1, e2], "end", rfl, rfl, h0, hx, W.e H, q H (Same.refl H)⟩
        · have l3' : ¬ ds.length = 3 := by omega
          have p0 : placeD qs n (.tuple ds) = isEnd (.tuple ds) "end" := by
            unfold placeD
            simp only [l3', false_and, if_false]
          rw [p0] at q
          have nl : decide (ys.length = 3) = false := decide_eq_false l3
          refine ifF nl ?_
          refine ifF rfl ?_
          refine ⟨_, rfl, .ref p, ys.length, rfl, .inr ⟨ys, h0, rfl⟩, rfl, _, rfl, ?_⟩
          rw [len3]
          refine ifF nl ?_
          refine ifF rfl ?_
          exact ⟨_, rfl, p, aE, m, l, ys, ds, "end", rfl, rfl, h0, hx, W.e H, q H (Same.refl H)⟩
    | _ => exact ifT rfl (q H (Same.refl H))
/-! is_mode -/
theorem scMo : FnScope ["thing"] ["thing"] (defScope sPMode) := ⟨rfl, rfl, rfl, by decide +kernel, rfl, by decide +kernel, by decide +kernel⟩
def spMode (K : PySem.W.Frag) : Sp := fun vs H Q _ => ∃ (m l : Addr) (v : V) (d : PyData), vs = [v] ∧ Dq K H m l v d ∧ Q (.bl (isMode d)) H
theorem ok_mode {f : Addr} {fd : FuncData} (F : Fun K "is_mode" "is_mode" sPMode f fd) (T : TxtR mg fI fN fS fA fG fNu fAs fPl fMo fNP fNM fNd aE aM) (W : WrT K aE aM) : FnOk P w K mg base CX0 1 f fd ["thing"] (spMode K) := by
  refine F.ok scMo (fun vs H Q E h => ?_) (fun cdv A outer s H vs Q E hr h => ?_)
  · obtain ⟨m, l, v, d, rfl, _⟩ := h
    rfl
  · obtain ⟨m, l, v, d, rfl, hd, q⟩ := h
    refine ⟨_, pss_one (ps_ret (pe_and (pe_callB call_isi (by rfl) T.isi PyProof.Rows.boot_isinstance (pa_cons (pv 0) (pa_cons (pe_bltn (v := .ty "str") (u := .type "str") (by rfl) T.str (by decide +kernel) rfl) pa_nil)))
      (pe_one (pe_cmpR op_in_seq (pv 0) (pe_glob (v := .ref aM) rfl T.gM rfl) (by rfl))))), ?_⟩
    refine ⟨_, rfl, v, .ty "str", _, _, _, rfl, .ty _, hd.ty, isi_str K d, _, rfl, ?_⟩
    cases d with
    | str z =>
      cases hd
      refine ifT rfl ⟨_, rfl, aM, _, rfl, .inr (W.m H), rfl, rfl, ?_⟩
      have e : inV (.str z) [.str "live", .str "met", .str "begin"] = isMode (.str z) := inV_str z ["live", "met", "begin"]
      rw [e]
      exact q
    | _ => exact ifF rfl q
end
end Ms
namespace Ms
open PySem PySem.Spec PyProof.Rows L2
/-! ### drawn settings are settings -/
theorem nm_name {z : Str} (h : nmOk z) : isName (.str z) = true := by
  obtain ⟨h1, h2, h3⟩ := h
  show ((decide (1 ≤ z.length) && decide (z.length ≤ 8)) && z.cps.toList.all fun c => decide (c ∈ alpha.cps.toList)) = true
  have ef : (fun c => decide (c ∈ alpha.cps.toList)) = lowB := funext lowB_alpha
  rw [decide_eq_true h1, decide_eq_true h2, ef, Bool.and_true, Bool.true_and, List.all_eq_true]
  intro c hc
  obtain ⟨a, b⟩ := h3 c hc
  unfold lowB
  rw [decide_eq_true a, decide_eq_true b]; rfl
theorem due_all : ∀ (qs : List (Str × Int)) (p : Nat) (seen : List Str) (mn : Int), (∀ q ∈ qs, isName (.str q.1) = true ∧ 1 ≤ q.2 ∧ q.2 ≤ 3) → (∀ q ∈ qs, q.1 ∉ seen) → (qs.map (·.1)).Nodup → dueGo p seen mn (prD qs) = .inr (qs.foldl (fun m q => m * (q.2 + 1)) mn)
  | [], p, seen, mn, _, _, _ => rfl
  | q :: qs, p, seen, mn, h, hs, hn => by
    obtain ⟨h1, h2, h3⟩ := h q (List.mem_cons_self ..)
    have hw : isWhole (.int q.2) 1 3 = true := by show (decide (1 ≤ q.2) && decide (q.2 ≤ 3)) = true; rw [decide_eq_true h2, decide_eq_true h3]; rfl
    have eo : oneD (.tuple [.str q.1, .int q.2]) = some (q.1, q.2) := by simp only [oneD]; rw [h1, hw]; rfl
    have nq := hs q (List.mem_cons_self ..)
    rw [List.map_cons, List.nodup_cons] at hn
    show dueGo p seen mn (.tuple [.str q.1, .int q.2] :: prD qs) = _
    simp only [dueGo, eo, if_neg nq]
    rw [due_all qs (p + 1) (seen ++ [q.1]) (mn * (q.2 + 1)) (fun x hx => h x (List.mem_cons_of_mem _ hx)) (fun x hx z => ?_) hn.2]
    · rfl
    · rcases List.mem_append.mp z with z | z
      · exact hs x (List.mem_cons_of_mem _ hx) z
      · have e : x.1 = q.1 := List.mem_singleton.mp z
        exact hn.1 (by rw [← e]; exact List.mem_map_of_mem hx)
/-- settings, as pairs -/
structure SetOk (ys : List (Str × Int)) : Prop where
  len1 : 1 ≤ ys.length
  len3 : ys.length ≤ 3
  nm : ∀ q ∈ ys, nmOk q.1
  most : ∀ q ∈ ys, 1 ≤ q.2 ∧ q.2 ≤ 3
  nodup : (ys.map (·.1)).Nodup
  few : many ys ≤ 12
theorem prD_len (ys : List (Str × Int)) : (prD ys).length = ys.length := by unfold prD; exact List.length_map ..
theorem SetOk.need {ys : List (Str × Int)} (s : SetOk ys) : needV (.tuple (prD ys)) = none := by
  have e := due_all ys 0 [] 1 (fun q hq => ⟨nm_name (s.nm q hq), s.most q hq⟩) (fun q _ z => nomatch z) s.nodup
  unfold needV
  simp only [prD_len, if_pos (And.intro s.len1 s.len3), e]
  have f := s.few
  unfold many at f
  rw [if_pos f]
theorem SetOk.okP {ys : List (Str × Int)} (s : SetOk ys) : okP ys := fun q hq => ⟨(s.nm q hq).ok, s.most q hq⟩
theorem zip_many : ∀ (ys : List Str) (ms : List Int) (i : Int), ys.length = ms.length → (ys.zip ms).foldl (fun m q => m * (q.2 + 1)) i = ms.foldl (fun m x => m * (x + 1)) i
  | [], [], _, _ => rfl
  | y :: ys, x :: ms, i, h => zip_many ys ms (i * (x + 1)) (by simpa using h)
  | [], _ :: _, _, h => by simp at h
  | _ :: _, [], _, h => by simp at h
theorem zip_fst : ∀ (ys : List Str) (ms : List Int), ys.length = ms.length → (ys.zip ms).map (·.1) = ys
  | [], [], _ => rfl
  | y :: ys, x :: ms, h => by
    show y :: (ys.zip ms).map (·.1) = y :: ys
    rw [zip_fst ys ms (by simpa using h)]
  | [], _ :: _, h => by simp at h
  | _ :: _, [], h => by simp at h
/-- how often each may stand: one to three small ints -/
def MoV (H : Hp) (a : Addr) : Prop := ∃ ms : List Int, H a = some (.tup (ms.map V.int)) ∧ 1 ≤ ms.length ∧ ms.length ≤ 3 ∧ (∀ x ∈ ms, 1 ≤ x ∧ x ≤ 3) ∧ ms.foldl (fun m x => m * (x + 1)) 1 ≤ 12
theorem MoV.same {H H' : Hp} {a : Addr} (s : Same H H') (h : MoV H a) : MoV H' a := by
  obtain ⟨ms, e, r⟩ := h
  exact ⟨ms, s _ _ e, r⟩
section
variable {P : Program} {w : World} {K : PySem.W.Frag} {mg : Str → Option Value} {base : Heap} {fN fM : Addr}
def spSettingsV : Sp := fun vs H Q _ => ∃ (m l : Addr) (n : Nat), vs = [.ref m] ∧ Mch H m l n ∧ n < 800000 ∧
  ∀ (p : Addr) (as : List Addr) (ys : List (Str × Int)) (l' : Addr) (H' : Hp), H' p = some (.tup (as.map V.ref)) → Prs H' as ys → SetOk ys → Mch H' m l' (n + 12) → Fr m l l' H H' → Q (.ref p) H'
theorem ok_settingsV {f : Addr} {fd fdN fdM : FuncData} (F : Fun K "_law_settings" "_law_settings" sSettings f fd) (T : TxtS mg fN fM) (FN : Fun K "_law_next" "_law_next" sNext fN fdN) (bN : Binds K fdN ["m", "many"] [])
    (FM : Fun K "_law_names" "_law_names" sNames fM fdM) (bM : Binds K fdM ["m", "many"] []) : FnOk P w K mg base CX0 3 f fd ["m"] spSettingsV := by
  have GN : FnOk P w K mg base CX0 2 fN fdN ["m", "many"] spNext := (ok_next FN T.toTxt).mono (by decide)
  have GM : FnOk P w K mg base CX0 2 fM fdM ["m", "many"] spNamesV := ok_namesV FM T.toTxtN FN bN
  refine F.ok scSt (fun vs H Q E h => ?_) (fun cdv A outer s H vs Q E hr h => ?_)
  · obtain ⟨m, l, n, rfl, _⟩ := h
    rfl
  · obtain ⟨m, l, n, rfl, M, hn, q⟩ := h
    refine ⟨_, pss_cons (ps_set (i := 1) scSt.nd rfl (by first | exact Or.inl rfl | exact Or.inr rfl) (pe_lst (pa_cons (pe_tup (pa_cons pe_int pa_nil)) (pa_cons (pe_tup (pa_cons pe_int pa_nil)) (pa_cons (pe_tup (pa_cons pe_int pa_nil)) (pa_cons (pe_tup (pa_cons pe_int (pa_cons pe_int pa_nil))) (pa_cons (pe_tup (pa_cons pe_int (pa_cons pe_int pa_nil))) (pa_cons (pe_tup (pa_cons pe_int (pa_cons pe_int pa_nil))) (pa_cons (pe_tup (pa_cons pe_int (pa_cons pe_int pa_nil))) (pa_cons (pe_tup (pa_cons pe_int (pa_cons pe_int pa_nil))) (pa_cons (pe_tup (pa_cons pe_int (pa_cons pe_int pa_nil))) (pa_cons (pe_tup (pa_cons pe_int (pa_cons pe_int (pa_cons pe_int pa_nil)))) (pa_cons (pe_tup (pa_cons pe_int (pa_cons pe_int (pa_cons pe_int pa_nil)))) (pa_cons (pe_tup (pa_cons pe_int (pa_cons pe_int (pa_cons pe_int pa_nil)))) pa_nil))))))))))))))
      (pss_cons (ps_set (i := 2) scSt.nd rfl (by first | exact Or.inl rfl | exact Or.inr rfl) (pe_ix ix_list (pv 1) (pe_call GN hr rfl T.next FN.kp bN .nil pass0 (pa_cons (pv 0) (pa_cons pe_int pa_nil))) (fun _ _ => rfl)))
      (pss_one (ps_ret (pe_callTy call_tuple_of (by rfl) T.tuple (by decide +kernel) (pa_cons (pe_lc (own := [("name", 3), ("most", 4)]) (g := gTup K 2 (gCons (gName 3) (gCons (gName 4) gNil))) (by rfl) scSt.nd
        (pi_zm (by rfl) T.zip (pa_cons (pe_call GM hr rfl T.names FM.kp bM .nil pass0 (pa_cons (pv 0) (pa_cons (pe_callB call_len (by rfl) T.len PySem.boot_len (pa_cons (pv 2) pa_nil)) pa_nil))) (pa_cons (pv 2) pa_nil)))
        (blkOk_by (own := [("name", 3), ("most", 4)]) (N := NS) (sc := defScope sSettings) (by decide +kernel))
        (fun _ _ _ _ _ => pg_tup rfl (pgs_cons (pg_name (i := 3) scSt.nd rfl (Or.inl rfl)) (pgs_cons (pg_name (i := 4) scSt.nd rfl (Or.inl rfl)) pgs_nil))) (fun _ _ _ _ _ => pts_nil)
        (fun _ _ _ _ _ => pe_tup (pa_cons (pv 3) (pa_cons (pv 4) pa_nil)))) pa_nil))))), ?_⟩
    refine ⟨(by show 1 ≤ sizeLine; decide), fun p1 h1 => ?_⟩
    obtain ⟨G1, e1⟩ : ∃ G, G = upd H p1 (.tup [.int 1]) := ⟨_, rfl⟩
    rw [← e1]
    have s1 : Same H G1 := e1 ▸ Same.upd h1
    have M1 := M.same s1
    have f1 : Fr m l l H G1 := e1 ▸ (Fr.refl M).junk h1
    have a1_1 : MoV G1 p1 := ⟨[1], by rw [e1, upd_same]; rfl, by decide, by decide, by decide, by decide⟩
    refine ⟨(by show 1 ≤ sizeLine; decide), fun p2 h2 => ?_⟩
    obtain ⟨G2, e2⟩ : ∃ G, G = upd G1 p2 (.tup [.int 2]) := ⟨_, rfl⟩
    rw [← e2]
    have s2 : Same G1 G2 := e2 ▸ Same.upd h2
    have M2 := M1.same s2
    have f2 : Fr m l l H G2 := e2 ▸ f1.junk h2
    have a2_2 : MoV G2 p2 := ⟨[2], by rw [e2, upd_same]; rfl, by decide, by decide, by decide, by decide⟩
    have a1_2 := a1_1.same s2
    refine ⟨(by show 1 ≤ sizeLine; decide), fun p3 h3 => ?_⟩
    obtain ⟨G3, e3⟩ : ∃ G, G = upd G2 p3 (.tup [.int 3]) := ⟨_, rfl⟩
    rw [← e3]
    have s3 : Same G2 G3 := e3 ▸ Same.upd h3
    have M3 := M2.same s3
    have f3 : Fr m l l H G3 := e3 ▸ f2.junk h3
    have a3_3 : MoV G3 p3 := ⟨[3], by rw [e3, upd_same]; rfl, by decide, by decide, by decide, by decide⟩
    have a1_3 := a1_2.same s3
    have a2_3 := a2_2.same s3
    refine ⟨(by show 2 ≤ sizeLine; decide), fun p4 h4 => ?_⟩
    obtain ⟨G4, e4⟩ : ∃ G, G = upd G3 p4 (.tup [.int 1, .int 1]) := ⟨_, rfl⟩
    rw [← e4]
    have s4 : Same G3 G4 := e4 ▸ Same.upd h4
    have M4 := M3.same s4
    have f4 : Fr m l l H G4 := e4 ▸ f3.junk h4
    have a4_4 : MoV G4 p4 := ⟨[1, 1], by rw [e4, upd_same]; rfl, by decide, by decide, by decide, by decide⟩
    have a1_4 := a1_3.same s4
    have a2_4 := a2_3.same s4
    have a3_4 := a3_3.same s4
    refine ⟨(by show 2 ≤ sizeLine; decide), fun p5 h5 => ?_⟩
    obtain ⟨G5, e5⟩ : ∃ G, G = upd G4 p5 (.tup [.int 1, .int 2]) := ⟨_, rfl⟩
    rw [← e5]
    have s5 : Same G4 G5 := e5 ▸ Same.upd h5
    have M5 := M4.same s5
    have f5 : Fr m l l H G5 := e5 ▸ f4.junk h5
    have a5_5 : MoV G5 p5 := ⟨[1, 2], by rw [e5, upd_same]; rfl, by decide, by decide, by decide, by decide⟩
    have a1_5 := a1_4.same s5
    have a2_5 := a2_4.same s5
    have a3_5 := a3_4.same s5
    have a4_5 := a4_4.same s5
    refine ⟨(by show 2 ≤ sizeLine; decide), fun p6 h6 => ?_⟩
    obtain ⟨G6, e6⟩ : ∃ G, G = upd G5 p6 (.tup [.int 2, .int 1]) := ⟨_, rfl⟩
    rw [← e6]
    have s6 : Same G5 G6 := e6 ▸ Same.upd h6
    have M6 := M5.same s6
    have f6 : Fr m l l H G6 := e6 ▸ f5.junk h6
    have a6_6 : MoV G6 p6 := ⟨[2, 1], by rw [e6, upd_same]; rfl, by decide, by decide, by decide, by decide⟩
    have a1_6 := a1_5.same s6
    have a2_6 := a2_5.same s6
    have a3_6 := a3_5.same s6
    have a4_6 := a4_5.same s6
    have a5_6 := a5_5.same s6
    refine ⟨(by show 2 ≤ sizeLine; decide), fun p7 h7 => ?_⟩
    obtain ⟨G7, e7⟩ : ∃ G, G = upd G6 p7 (.tup [.int 2, .int 2]) := ⟨_, rfl⟩
    rw [← e7]
    have s7 : Same G6 G7 := e7 ▸ Same.upd h7
    have M7 := M6.same s7
    have f7 : Fr m l l H G7 := e7 ▸ f6.junk h7
    have a7_7 : MoV G7 p7 := ⟨[2, 2], by rw [e7, upd_same]; rfl, by decide, by decide, by decide, by decide⟩
    have a1_7 := a1_6.same s7
    have a2_7 := a2_6.same s7
    have a3_7 := a3_6.same s7
    have a4_7 := a4_6.same s7
    have a5_7 := a5_6.same s7
    have a6_7 := a6_6.same s7
    refine ⟨(by show 2 ≤ sizeLine; decide), fun p8 h8 => ?_⟩
    obtain ⟨G8, e8⟩ : ∃ G, G = upd G7 p8 (.tup [.int 1, .int 3]) := ⟨_, rfl⟩
    rw [← e8]
    have s8 : Same G7 G8 := e8 ▸ Same.upd h8
    have M8 := M7.same s8
    have f8 : Fr m l l H G8 := e8 ▸ f7.junk h8
    have a8_8 : MoV G8 p8 := ⟨[1, 3], by rw [e8, upd_same]; rfl, by decide, by decide, by decide, by decide⟩
    have a1_8 := a1_7.same s8
    have a2_8 := a2_7.same s8
    have a3_8 := a3_7.same s8
    have a4_8 := a4_7.same s8
    have a5_8 := a5_7.same s8
    have a6_8 := a6_7.same s8
    have a7_8 := a7_7.same s8
    refine ⟨(by show 2 ≤ sizeLine; decide), fun p9 h9 => ?_⟩
    obtain ⟨G9, e9⟩ : ∃ G, G = upd G8 p9 (.tup [.int 3, .int 2]) := ⟨_, rfl⟩
    rw [← e9]
    have s9 : Same G8 G9 := e9 ▸ Same.upd h9
    have M9 := M8.same s9
    have f9 : Fr m l l H G9 := e9 ▸ f8.junk h9
    have a9_9 : MoV G9 p9 := ⟨[3, 2], by rw [e9, upd_same]; rfl, by decide, by decide, by decide, by decide⟩
    have a1_9 := a1_8.same s9
    have a2_9 := a2_8.same s9
    have a3_9 := a3_8.same s9
    have a4_9 := a4_8.same s9
    have a5_9 := a5_8.same s9
    have a6_9 := a6_8.same s9
    have a7_9 := a7_8.same s9
    have a8_9 := a8_8.same s9
    refine ⟨(by show 3 ≤ sizeLine; decide), fun p10 h10 => ?_⟩
    obtain ⟨G10, e10⟩ : ∃ G, G = upd G9 p10 (.tup [.int 1, .int 1, .int 1]) := ⟨_, rfl⟩
    rw [← e10]
    have s10 : Same G9 G10 := e10 ▸ Same.upd h10
    have M10 := M9.same s10
    have f10 : Fr m l l H G10 := e10 ▸ f9.junk h10
    have a10_10 : MoV G10 p10 := ⟨[1, 1, 1], by rw [e10, upd_same]; rfl, by decide, by decide, by decide, by decide⟩
    have a1_10 := a1_9.same s10
    have a2_10 := a2_9.same s10
    have a3_10 := a3_9.same s10
    have a4_10 := a4_9.same s10
    have a5_10 := a5_9.same s10
    have a6_10 := a6_9.same s10
    have a7_10 := a7_9.same s10
    have a8_10 := a8_9.same s10
    have a9_10 := a9_9.same s10
    refine ⟨(by show 3 ≤ sizeLine; decide), fun p11 h11 => ?_⟩
    obtain ⟨G11, e11⟩ : ∃ G, G = upd G10 p11 (.tup [.int 1, .int 2, .int 1]) := ⟨_, rfl⟩
    rw [← e11]
    have s11 : Same G10 G11 := e11 ▸ Same.upd h11
    have M11 := M10.same s11
    have f11 : Fr m l l H G11 := e11 ▸ f10.junk h11
    have a11_11 : MoV G11 p11 := ⟨[1, 2, 1], by rw [e11, upd_same]; rfl, by decide, by decide, by decide, by decide⟩
    have a1_11 := a1_10.same s11
    have a2_11 := a2_10.same s11
    have a3_11 := a3_10.same s11
    have a4_11 := a4_10.same s11
    have a5_11 := a5_10.same s11
    have a6_11 := a6_10.same s11
    have a7_11 := a7_10.same s11
    have a8_11 := a8_10.same s11
    have a9_11 := a9_10.same s11
    have a10_11 := a10_10.same s11
    refine ⟨(by show 3 ≤ sizeLine; decide), fun p12 h12 => ?_⟩
    obtain ⟨G12, e12⟩ : ∃ G, G = upd G11 p12 (.tup [.int 1, .int 1, .int 2]) := ⟨_, rfl⟩
    rw [← e12]
    have s12 : Same G11 G12 := e12 ▸ Same.upd h12
    have M12 := M11.same s12
    have f12 : Fr m l l H G12 := e12 ▸ f11.junk h12
    have a12_12 : MoV G12 p12 := ⟨[1, 1, 2], by rw [e12, upd_same]; rfl, by decide, by decide, by decide, by decide⟩
    have a1_12 := a1_11.same s12
    have a2_12 := a2_11.same s12
    have a3_12 := a3_11.same s12
    have a4_12 := a4_11.same s12
    have a5_12 := a5_11.same s12
    have a6_12 := a6_11.same s12
    have a7_12 := a7_11.same s12
    have a8_12 := a8_11.same s12
    have a9_12 := a9_11.same s12
    have a10_12 := a10_11.same s12
    have a11_12 := a11_11.same s12
    refine ⟨(by show 12 ≤ sizeLine; decide), fun D hD => ?_⟩
    obtain ⟨G, eG⟩ : ∃ G, G = upd G12 D (.lst [.ref p1, .ref p2, .ref p3, .ref p4, .ref p5, .ref p6, .ref p7, .ref p8, .ref p9, .ref p10, .ref p11, .ref p12]) := ⟨_, rfl⟩
    rw [← eG]
    have sG : Same G12 G := eG ▸ Same.upd hD
    have nD := M12.ne hD
    have MG := M12.same sG
    have fG : Fr m l l H G := eG ▸ f12.junk hD
    have gD : G D = some (.lst [.ref p1, .ref p2, .ref p3, .ref p4, .ref p5, .ref p6, .ref p7, .ref p8, .ref p9, .ref p10, .ref p11, .ref p12]) := by rw [eG, upd_same]
    have pick : ∀ r : Int, 0 ≤ r → r < 12 → ∃ a, atI ([.ref p1, .ref p2, .ref p3, .ref p4, .ref p5, .ref p6, .ref p7, .ref p8, .ref p9, .ref p10, .ref p11, .ref p12] : List V) r = some (.ref a) ∧ MoV G a := by
      intro r h0 h1
      obtain ⟨j, rfl⟩ : ∃ j : Nat, r = (j : Int) := ⟨r.toNat, by omega⟩
      have hj : j < 12 := by omega
      match j, hj with
      | 0, _ => exact ⟨p1, rfl, a1_12.same sG⟩
      | 1, _ => exact ⟨p2, rfl, a2_12.same sG⟩
      | 2, _ => exact ⟨p3, rfl, a3_12.same sG⟩
      | 3, _ => exact ⟨p4, rfl, a4_12.same sG⟩
      | 4, _ => exact ⟨p5, rfl, a5_12.same sG⟩
      | 5, _ => exact ⟨p6, rfl, a6_12.same sG⟩
      | 6, _ => exact ⟨p7, rfl, a7_12.same sG⟩
      | 7, _ => exact ⟨p8, rfl, a8_12.same sG⟩
      | 8, _ => exact ⟨p9, rfl, a9_12.same sG⟩
      | 9, _ => exact ⟨p10, rfl, a10_12.same sG⟩
      | 10, _ => exact ⟨p11, rfl, a11_12.same sG⟩
      | 11, _ => exact ⟨p12, rfl, a12_12.same sG⟩
    clear e1 s1 M1 f1 e2 s2 M2 f2 e3 s3 M3 f3 e4 s4 M4 f4 e5 s5 M5 f5 e6 s6 M6 f6 e7 s7 M7 f7 e8 s8 M8 f8 e9 s9 M9 f9 e10 s10 M10 f10 e11 s11 M11 f11 a1_1 a1_2 a2_2 a1_3 a2_3 a3_3 a1_4 a2_4 a3_4 a4_4 a1_5 a2_5 a3_5 a4_5 a5_5 a1_6 a2_6 a3_6 a4_6 a5_6 a6_6 a1_7 a2_7 a3_7 a4_7 a5_7 a6_7 a7_7 a1_8 a2_8 a3_8 a4_8 a5_8 a6_8 a7_8 a8_8 a1_9 a2_9 a3_9 a4_9 a5_9 a6_9 a7_9 a8_9 a9_9 a1_10 a2_10 a3_10 a4_10 a5_10 a6_10 a7_10 a8_10 a9_10 a10_10 a1_11 a2_11 a3_11 a4_11 a5_11 a6_11 a7_11 a8_11 a9_11 a10_11 a11_11 a1_12 a2_12 a3_12 a4_12 a5_12 a6_12 a7_12 a8_12 a9_12 a10_12 a11_12 a12_12
    refine ⟨_, rfl, _, rfl, m, l, n, 12, rfl, MG, by omega, by decide, by decide, fun r l1 H1 r0 r1 M1 f1' => ?_⟩
    obtain ⟨a, ha, mo⟩ := pick r r0 r1
    refine ⟨D, _, r, .ref a, rfl, rfl, SqL.of (f1'.keep D _ gD nD.1 nD.2), ha, ?_⟩
    obtain ⟨ms, hms, ml1, ml3, msok, mfew⟩ := mo
    have am : a ≠ m ∧ a ≠ l := by
      obtain ⟨c, cs, ls, z, dm, dc, dl, _⟩ := MG.ex
      exact ⟨ne_of hms dm (by intro q; cases q), ne_of hms dl (by intro q; cases q)⟩
    have ka : H1 a = some (.tup (ms.map V.int)) := f1'.keep a _ hms am.1 am.2
    have F1 : Fr m l l1 H H1 := fG.trans f1'
    clear pick gD eG sG MG fG hD e12 s12 M12 f12 h12 h11 h10 h9 h8 h7 h6 h5 h4 h3 h2 h1 ha f1' hms
    have lenA : ((ms.map V.int).length : Nat) = ms.length := List.length_map ..
    refine ⟨_, rfl, _, rfl, _, _, rfl, .inr ⟨_, SqT.of ka, rfl⟩, ?_⟩
    refine ⟨m, l1, n + 1, (ms.map V.int).length, rfl, M1, by omega, by omega, by omega, fun N ys l2 H2 hN gN yl yn yo nm nl M2 f2 => ?_⟩
    have F2 := F1.trans f2
    have ka2 : H2 a = some (.tup (ms.map V.int)) := f2.keep a _ ka am.1 (by
      obtain ⟨c, cs, ls, z, dm, dc, dl, _⟩ := M1.ex
      exact ne_of ka dl (by intro q; cases q))
    refine ⟨_, rfl, N, a, _, _, rfl, SqL.of gN, .inl (.inl ka2), fun D2 hD2 => ?_⟩
    have yl' : ys.length = ms.length := yl.trans lenA
    refine lc_it (walk_zm (xs := ys.map V.str) (ys := ms.map V.int) (n := ms.length) (by simp [yl'])) (fun i H3 => ∃ as : List Addr, as.length = i ∧ Prs H3 as ((ys.zip ms).take i) ∧ (∀ b ∈ as, b ≠ D2) ∧ H3 D2 = some (.lst (as.map V.ref)) ∧ Same H2 H3)
      ⟨[], rfl, .nil, (fun _ hb => nomatch hb), upd_same, Same.upd hD2⟩ (fun i H3 _ ⟨as, _, _, _, _, s3⟩ => ⟨SqL.of (s3 _ _ gN), SqT.of (s3 _ _ ka2)⟩) ?_ ?_
    · rintro i x H3 H4 hi ⟨as, al, pr, nd, gd, s3⟩ ⟨T, x1, x2, rfl, hT, rfl, e1, e2⟩
      have hy : i < ys.length := by omega
      have e1' : x1 = .str ys[i] := by simp [hy] at e1; exact e1.symm
      have e2' : x2 = .int ms[i] := by simp [hi] at e2; exact e2.symm
      subst e1' e2'
      refine ⟨T, _, rfl, .inl (.inl upd_same), rfl, _, _, rfl, _, _, rfl, rfl, rfl, tyes ?_⟩
      refine ⟨_, rfl, _, rfl, (by show 2 ≤ sizeLine; decide), fun p hp => ?_⟩
      have sT : Same H3 (upd H3 T (.tup [.str ys[i], .int ms[i]])) := Same.upd hT
      have sp : Same (upd H3 T (.tup [.str ys[i], .int ms[i]])) (upd (upd H3 T (.tup [.str ys[i], .int ms[i]])) p (.tup [.str ys[i], .int ms[i]])) := Same.upd hp
      have nDp : p ≠ D2 := fun e => by rw [e, sT _ _ gd] at hp; cases hp
      refine ⟨_, sp _ _ (sT _ _ gd), small1000 (by rw [List.length_map]; omega), as ++ [p], by simp [al], ?_, ?_, ?_, ?_⟩
      · rw [List.take_succ]
        have ez : (ys.zip ms)[i]? = some (ys[i], ms[i]) := by rw [List.getElem?_zip_eq_some]; exact ⟨List.getElem?_eq_getElem hy, List.getElem?_eq_getElem hi⟩
        rw [ez]
        refine Prs.snoc (Prs.same (fun b o hb e => ?_) pr) ?_
        · rw [upd_ne (nd b hb)]; exact sp _ _ (sT _ _ e)
        · rw [upd_ne nDp, upd_same]
      · intro b hb
        rcases List.mem_append.mp hb with hb | hb
        · exact nd b hb
        · rw [List.mem_singleton.mp hb]; exact nDp
      · rw [upd_same, List.map_append]; rfl
      · intro b o e
        have nb : b ≠ D2 := ne_of_none e hD2
        rw [upd_ne nb]; exact sp _ _ (sT _ _ (s3 _ _ e))
    · rintro H3 ⟨as, al, pr, nd, gd, s3⟩
      have lz : (ys.zip ms).length = ms.length := by simp [yl']
      rw [List.take_of_length_le (by omega)] at pr
      refine ⟨D2, _, rfl, .inl ⟨SqL.of gd, fun p hp => ?_⟩⟩
      have sp : Same H3 (upd H3 p (.tup (as.map V.ref))) := Same.upd hp
      have so : SetOk (ys.zip ms) := by
        refine ⟨by omega, by omega, fun y hy => yo _ (List.of_mem_zip hy).1, fun y hy => msok _ (List.of_mem_zip hy).2, by rw [zip_fst ys ms yl']; exact yn, ?_⟩
        unfold many
        rw [zip_many ys ms 1 yl']; exact mfew
      exact q p as (ys.zip ms) l2 _ upd_same (pr.same fun b o _ e => sp b o e) so ((((M2.same s3).same sp)).mono (by omega)) ((F2.trail s3).trail sp)
end
end Ms
namespace Ms
open PySem PySem.Spec PyProof.Rows L2
/-! ### need_places, need_modes -/
def firstBad (f : PyData → Bool) : Nat → List PyData → Option Nat
  | _, [] => none
  | p, d :: ds => if f d = true then firstBad f (p + 1) ds else some p
def placesV (qs : List (Str × Int)) (d : PyData) : Option V := match d with
  | .tuple ds => if 1 ≤ ds.length ∧ ds.length ≤ 16 then (firstBad (placeD qs ds.length) 0 ds).map fun p => V.int (p : Nat) else some .non
  | _ => some .non
def modesV (k : Nat) (d : PyData) : Option V := match d with
  | .tuple ds => if ds.length = k then (firstBad isMode 0 ds).map fun p => V.int (p : Nat) else some .non
  | _ => some .non
section
variable {P : Program} {w : World} {K : PySem.W.Frag} {mg : Str → Option Value} {base : Heap} {fI fN fS fA fG fNu fAs fPl fMo fNP fNM fNd aE aM C fE : Addr}
theorem scInP : FnScope ["self", "place"] ["self", "place"] (defScope sIniP) := ⟨rfl, rfl, rfl, by decide +kernel, rfl, by decide +kernel, by decide +kernel⟩
theorem ok_iniP {fd : FuncData} {qual : Str} (F : Fun K "__init__" qual sIniP fE fd) (TE : ErrC K C fE) : FnOk P w K mg base CX0 1 fE fd ["self", "place"] (spIni C) := by
  refine F.ok scInP (fun vs H Q E h => ?_) (fun cdv A outer s H vs Q E hr h => ?_)
  · obtain ⟨a, y, rfl, _⟩ := h
    rfl
  · obtain ⟨a, y, rfl, e, q⟩ := h
    exact ⟨_, pss_one (ps_ost (pv 0) (pv 1)), ⟨_, rfl, _, rfl, a, C, rfl, TE.ox, TE.no, .inl ⟨e, fun dx h1 h2 => q dx h1 h2⟩⟩⟩
theorem scInM : FnScope ["self", "place"] ["self", "place"] (defScope sIniM) := ⟨rfl, rfl, rfl, by decide +kernel, rfl, by decide +kernel, by decide +kernel⟩
theorem ok_iniM {fd : FuncData} {qual : Str} (F : Fun K "__init__" qual sIniM fE fd) (TE : ErrC K C fE) : FnOk P w K mg base CX0 1 fE fd ["self", "place"] (spIni C) := by
  refine F.ok scInM (fun vs H Q E h => ?_) (fun cdv A outer s H vs Q E hr h => ?_)
  · obtain ⟨a, y, rfl, _⟩ := h
    rfl
  · obtain ⟨a, y, rfl, e, q⟩ := h
    exact ⟨_, pss_one (ps_ost (pv 0) (pv 1)), ⟨_, rfl, _, rfl, a, C, rfl, TE.ox, TE.no, .inl ⟨e, fun dx h1 h2 => q dx h1 h2⟩⟩⟩
def spNPl (K : PySem.W.Frag) (C : Addr) : Sp := fun vs H Q E => ∃ (m l a : Addr) (xs : List V) (qs : List (Str × Int)) (v : V) (d : PyData) (B b : Nat), vs = [.ref a, v] ∧ SqT K H a xs ∧ PrTs K H xs qs ∧ Dq K H m l v d ∧ Gd B 100000 b d ∧
  (placesV qs d = none → ∀ H', Same H H' → Q v H') ∧ ∀ u, placesV qs d = some u → ∀ dx H', H dx = none → Same H H' → H' dx = some (.xd [("place", u)]) → E (.ref C) (some dx) H'
abbrev NNp : List Str := ["settings", "places", "at", "place"]
theorem scNp : FnScope NNp ["settings", "places"] (defScope sNPlaces) := ⟨rfl, rfl, rfl, by decide +kernel, rfl, by decide +kernel, by decide +kernel⟩
theorem ok_nplaces {f : Addr} {fd fdI fdN fdNu fdAs fdPl fdE : FuncData} {qual : Str} (F : Fun K "need_places" "need_places" sNPlaces f fd) (T : TxtR mg fI fN fS fA fG fNu fAs fPl fMo fNP fNM fNd aE aM) (W : WrT K aE aM) (gC : mg "BadPlaces" = some (.ref C)) (TE : ErrC K C fE) (FI : Fun K "is_int" "is_int" sPInt fI fdI) (bI : Binds K fdI ["thing"] [])
    (FN : Fun K "is_name" "is_name" sPName fN fdN) (bN : Binds K fdN ["thing"] []) (FNu : Fun K "is_number" "is_number" sPNum fNu fdNu) (bNu : Binds K fdNu ["many", "thing"] []) (FAs : Fun K "is_ask" "is_ask" sPAsk fAs fdAs) (bAs : Binds K fdAs ["settings", "many", "setting", "nexts"] [])
    (FPl : Fun K "is_place" "is_place" sPPlace fPl fdPl) (bPl : Binds K fdPl ["settings", "many", "thing"] []) (FE : Fun K "__init__" qual sIniP fE fdE) (bE : Binds K fdE ["self", "place"] []) : FnOk P w K mg base (L2.CX P w) 5 f fd ["settings", "places"] (spNPl K C) := by
  have GPl : FnOk P w K mg base CX0 4 fPl fdPl ["settings", "many", "thing"] (spPlace K) := ok_place FPl T W FI bI FN bN FNu bNu FAs bAs
  have GE : FnOk P w K mg base CX0 1 fE fdE ["self", "place"] (spIni C) := ok_iniP FE TE
  refine F.okX scNp (fun vs H Q E h => ?_) (fun cdv A outer s H vs Q E hr h => ?_)
  · obtain ⟨m, l, a, xs, qs, v, d, B, b, rfl, _⟩ := h
    rfl
  obtain ⟨m, l, a, xs, qs, v, d, B, b, rfl, hs, hp, hd, gd, q, qe⟩ := h
  obtain ⟨tp, gp⟩ := T.mP
  have hr2 : Room 2 _ := hr.mono (by decide)
  refine ⟨_, pss_cons (ps_if (PW.pt (pw_or (pt_not (pt_val (pe_callB call_isi (by rfl) T.isi PyProof.Rows.boot_isinstance (pa_cons (pv 1) (pa_cons (pe_bltn (v := .ty "tuple") (u := .type "tuple") (by rfl) T.tuple (by decide +kernel) rfl) pa_nil)))))
      (pw_or1 (pt_not (pt_chain op_le op_le pe_int (pe_callB call_len (by rfl) T.len PySem.boot_len (pa_cons (pv 1) pa_nil)) (pe_glob (v := .int 16) rfl gp ⟨_, rfl⟩)))))) (pss_one (ps_raise rfl (takes_of rfl rfl rfl rfl) (pmk_oex TE.ox TE.ini TE.ty GE hr2 bE .nil pass0 (by rfl) gC (pa_cons pe_non pa_nil)))) pss_nil)
    (pss_cons (ps_for (passes_of rfl) rfl (pi_et (by rfl) T.enumerate (pa_cons (pv 1) pa_nil)) (pg_tup rfl (pgs_cons (pg_name (i := 2) scNp.nd rfl (by first | exact Or.inl rfl | exact Or.inr rfl)) (pgs_cons (pg_name (i := 3) scNp.nd rfl (by first | exact Or.inl rfl | exact Or.inr rfl)) pgs_nil)))
      (pss_one (ps_if (pt_not (pt_val (pe_call GPl hr rfl T.gPl FPl.kp bPl .nil pass0 (pa_cons (pv 0) (pa_cons (pe_callB call_len (by rfl) T.len PySem.boot_len (pa_cons (pv 1) pa_nil)) (pa_cons (pv 3) pa_nil))))))
        (pss_one (ps_raise rfl (takes_of rfl rfl rfl rfl) (pmk_oex TE.ox TE.ini TE.ty GE hr2 bE .nil pass0 (by rfl) gC (pa_cons (pv 2) pa_nil)))) pss_nil)))
    (pss_one (ps_ret (pv 1)))), ?_⟩
  refine ⟨_, rfl, v, .ty "tuple", _, _, _, rfl, .ty _, hd.ty, isi_tup K d, _, rfl, ?_⟩
  cases d with
  | tuple ds =>
    cases hd with
    | tup h0 hx =>
      rename_i p ys
      refine ifF rfl ?_
      have ly := hx.len
      have none0 : ¬ (1 ≤ ds.length ∧ ds.length ≤ 16) → placesV qs (.tuple ds) = some .non := fun h => if_neg h
      refine ⟨_, rfl, .ref p, ys.length, rfl, .inr ⟨ys, h0, rfl⟩, 1, (ys.length : Int), rfl, rfl, _, rfl, ite_b (fun e1 => ⟨(ys.length : Int), 16, rfl, rfl, _, rfl, ite_b (fun e8 => mk_one (qe _ (none0 ?_))) (fun e8 => ?_)⟩) (fun e1 => ⟨_, rfl, ifT rfl (mk_one (qe _ (none0 ?_)))⟩)⟩
      · have : ¬ ((ys.length : Int) ≤ 16) := by simpa using e8
        omega
      · have l3 : (ys.length : Int) ≤ 16 := by simpa using e8
        have l1 : (1 : Int) ≤ (ys.length : Int) := of_decide_eq_true e1
        have ed : placesV qs (.tuple ds) = (firstBad (placeD qs ds.length) 0 ds).map fun p => V.int (p : Nat) := if_pos ⟨by omega, by omega⟩
        rw [ed] at q qe
        refine ⟨_, rfl, p, ys, rfl, h0, ?_⟩
        refine for_it walk_et (fun i σ H1 => ∃ (v2 v3 : Option V), σ = [some (.ref a), some (.ref p), v2, v3] ∧ Same H H1 ∧ firstBad (placeD qs ds.length) 0 ds = firstBad (placeD qs ds.length) i (ds.drop i))
          ⟨none, none, rfl, Same.refl H, rfl⟩ (fun i σ H1 _ ⟨v2, v3, _, s1, _⟩ => Same.seqT s1 h0) ?_ ?_
        · rintro i x σ H1 H2 hi ⟨v2, v3, rfl, s1, dg⟩ ⟨TT, x1, x2, rfl, hT, rfl, e1', e2'⟩
          have ex1 : x1 = .int (i : Nat) := (Option.some.inj e1').symm
          subst ex1
          obtain ⟨e, he, dqe⟩ := hx.get e2'
          have sA : Same H (upd H1 TT (.tup [.int (i : Nat), x2])) := s1.trans (Same.upd hT)
          have hid : i < ds.length := by omega
          have edr : ds.drop i = e :: ds.drop (i + 1) := by rw [List.drop_eq_getElem_cons hid]; rw [(List.getElem?_eq_some_iff.mp he).2]
          obtain ⟨cc, eb, g⟩ := Gd.untup gd
          have ge := g.at he
          have we : e.weight ≤ 100000 := by
            have := wA_at he
            have := g.wt
            omega
          refine ⟨TT, _, rfl, .inl (.inl upd_same), rfl, _, _, rfl, _, _, rfl, rfl, ?_⟩
          refine ⟨_, rfl, _, rfl, .ref p, ys.length, rfl, .inr ⟨ys, Same.seqT sA h0, rfl⟩, _, rfl, m, l, a, xs, qs, (ys.length : Int), x2, e, _, _, rfl, Same.seqT sA hs, hp.same sA, Dq.same sA e x2 dqe, ge.mono (Nat.le_refl _) we (Nat.le_refl _), fun H3 s3 => ⟨_, rfl, ?_⟩⟩
          rw [ly]
          rw [edr] at dg
          simp only [firstBad] at dg
          cases hb : placeD qs ds.length e with
          | true =>
            rw [if_pos hb] at dg
            exact ifF rfl ⟨_, _, rfl, sA.trans s3, dg⟩
          | false =>
            rw [if_neg (by rw [hb]; exact Bool.false_ne_true)] at dg
            refine ifT rfl ⟨_, rfl, mk_one fun d H' h1 h2 h3 => qe (.int (i : Nat)) ?_ d H' (Same.free (sA.trans s3) h1) ((sA.trans s3).trans h2) h3⟩
            rw [dg]; rfl
        · rintro σ H1 ⟨v2, v3, rfl, s1, dg⟩
          rw [List.drop_of_length_le (by omega)] at dg
          exact ⟨_, rfl, q (by rw [dg]; rfl) _ s1⟩
      · have : ¬ ((1 : Int) ≤ (ys.length : Int)) := of_decide_eq_false e1
        omega
  | _ => exact ifT rfl (ifT rfl (mk_one (qe _ rfl)))
/-! need_modes -/
def spNMo (K : PySem.W.Frag) (C : Addr) : Sp := fun vs H Q E => ∃ (m l a : Addr) (xs : List V) (v : V) (d : PyData), vs = [.ref a, v] ∧ SqT K H a xs ∧ Dq K H m l v d ∧
  (modesV xs.length d = none → ∀ H', Same H H' → Q v H') ∧ ∀ u, modesV xs.length d = some u → ∀ dx H', H dx = none → Same H H' → H' dx = some (.xd [("place", u)]) → E (.ref C) (some dx) H'
abbrev NNm : List Str := ["settings", "modes", "at", "mode"]
theorem scNmo : FnScope NNm ["settings", "modes"] (defScope sNModes) := ⟨rfl, rfl, rfl, by decide +kernel, rfl, by decide +kernel, by decide +kernel⟩
theorem ok_nmodes {f : Addr} {fd fdMo fdE : FuncData} {qual : Str} (F : Fun K "need_modes" "need_modes" sNModes f fd) (T : TxtR mg fI fN fS fA fG fNu fAs fPl fMo fNP fNM fNd aE aM) (W : WrT K aE aM) (gC : mg "BadModes" = some (.ref C)) (TE : ErrC K C fE)
    (FMo : Fun K "is_mode" "is_mode" sPMode fMo fdMo) (bMo : Binds K fdMo ["thing"] []) (FE : Fun K "__init__" qual sIniM fE fdE) (bE : Binds K fdE ["self", "place"] []) : FnOk P w K mg base (L2.CX P w) 3 f fd ["settings", "modes"] (spNMo K C) := by
  have GMo : FnOk P w K mg base CX0 1 fMo fdMo ["thing"] (spMode K) := ok_mode FMo T W
  have GE : FnOk P w K mg base CX0 1 fE fdE ["self", "place"] (spIni C) := ok_iniM FE TE
  refine F.okX scNmo (fun vs H Q E h => ?_) (fun cdv A outer s H vs Q E hr h => ?_)
  · obtain ⟨m, l, a, xs, v, d, rfl, _⟩ := h
    rfl
  obtain ⟨m, l, a, xs, v, d, rfl, hs, hd, q, qe⟩ := h
  have hr1 : Room 1 _ := hr.mono (by decide)
  refine ⟨_, pss_cons (ps_if (PW.pt (pw_or (pt_not (pt_val (pe_callB call_isi (by rfl) T.isi PyProof.Rows.boot_isinstance (pa_cons (pv 1) (pa_cons (pe_bltn (v := .ty "tuple") (u := .type "tuple") (by rfl) T.tuple (by decide +kernel) rfl) pa_nil)))))
      (pw_or1 (pt_cmpR op_ne (pe_callB call_len (by rfl) T.len PySem.boot_len (pa_cons (pv 1) pa_nil)) (pe_callB call_len (by rfl) T.len PySem.boot_len (pa_cons (pv 0) pa_nil)) (nomark _))))) (pss_one (ps_raise rfl (takes_of rfl rfl rfl rfl) (pmk_oex TE.ox TE.ini TE.ty GE hr bE .nil pass0 (by rfl) gC (pa_cons pe_non pa_nil)))) pss_nil)
    (pss_cons (ps_for (passes_of rfl) rfl (pi_et (by rfl) T.enumerate (pa_cons (pv 1) pa_nil)) (pg_tup rfl (pgs_cons (pg_name (i := 2) scNmo.nd rfl (by first | exact Or.inl rfl | exact Or.inr rfl)) (pgs_cons (pg_name (i := 3) scNmo.nd rfl (by first | exact Or.inl rfl | exact Or.inr rfl)) pgs_nil)))
      (pss_one (ps_if (pt_not (pt_val (pe_call GMo hr1 rfl T.gMo FMo.kp bMo .nil pass0 (pa_cons (pv 3) pa_nil))))
        (pss_one (ps_raise rfl (takes_of rfl rfl rfl rfl) (pmk_oex TE.ox TE.ini TE.ty GE hr bE .nil pass0 (by rfl) gC (pa_cons (pv 2) pa_nil)))) pss_nil)))
    (pss_one (ps_ret (pv 1)))), ?_⟩
  refine ⟨_, rfl, v, .ty "tuple", _, _, _, rfl, .ty _, hd.ty, isi_tup K d, _, rfl, ?_⟩
  cases d with
  | tuple ds =>
    cases hd with
    | tup h0 hx =>
      rename_i p ys
      refine ifF rfl ?_
      have ly := hx.len
      refine ⟨_, rfl, .ref p, ys.length, rfl, .inr ⟨ys, h0, rfl⟩, _, rfl, .ref a, xs.length, rfl, .inr ⟨xs, hs, rfl⟩, rfl, _, rfl, ?_⟩
      have ee : decide (V.int ((ys.length : Nat) : Int) = V.int ((xs.length : Nat) : Int)) = decide (ys.length = xs.length) := by
        rw [Bool.eq_iff_iff, decide_eq_true_eq, decide_eq_true_eq, V.int.injEq]; omega
      rw [ee]
      by_cases hl : ys.length = xs.length
      · have ed : modesV xs.length (.tuple ds) = (firstBad isMode 0 ds).map fun p => V.int (p : Nat) := if_pos (by omega)
        rw [ed] at q qe
        refine ifF (by rw [decide_eq_true hl]; rfl) ?_
        refine ⟨_, rfl, p, ys, rfl, h0, ?_⟩
        refine for_it walk_et (fun i σ H1 => ∃ (v2 v3 : Option V), σ = [some (.ref a), some (.ref p), v2, v3] ∧ Same H H1 ∧ firstBad isMode 0 ds = firstBad isMode i (ds.drop i))
          ⟨none, none, rfl, Same.refl H, rfl⟩ (fun i σ H1 _ ⟨v2, v3, _, s1, _⟩ => Same.seqT s1 h0) ?_ ?_
        · rintro i x σ H1 H2 hi ⟨v2, v3, rfl, s1, dg⟩ ⟨TT, x1, x2, rfl, hT, rfl, e1', e2'⟩
          have ex1 : x1 = .int (i : Nat) := (Option.some.inj e1').symm
          subst ex1
          obtain ⟨e, he, dqe⟩ := hx.get e2'
          have sA : Same H (upd H1 TT (.tup [.int (i : Nat), x2])) := s1.trans (Same.upd hT)
          have hid : i < ds.length := by omega
          have edr : ds.drop i = e :: ds.drop (i + 1) := by rw [List.drop_eq_getElem_cons hid]; rw [(List.getElem?_eq_some_iff.mp he).2]
          refine ⟨TT, _, rfl, .inl (.inl upd_same), rfl, _, _, rfl, _, _, rfl, rfl, ?_⟩
          refine ⟨_, rfl, m, l, x2, e, rfl, Dq.same sA e x2 dqe, _, rfl, ?_⟩
          rw [edr] at dg
          simp only [firstBad] at dg
          cases hb : isMode e with
          | true =>
            rw [if_pos hb] at dg
            exact ifF rfl ⟨_, _, rfl, sA, dg⟩
          | false =>
            rw [if_neg (by rw [hb]; exact Bool.false_ne_true)] at dg
            refine ifT rfl ⟨_, rfl, mk_one fun d H' h1 h2 h3 => qe (.int (i : Nat)) ?_ d H' (Same.free sA h1) (sA.trans h2) h3⟩
            rw [dg]; rfl
        · rintro σ H1 ⟨v2, v3, rfl, s1, dg⟩
          rw [List.drop_of_length_le (by omega)] at dg
          exact ⟨_, rfl, q (by rw [dg]; rfl) _ s1⟩
      · have ed : modesV xs.length (.tuple ds) = some .non := if_neg (by omega)
        exact ifT (by rw [decide_eq_false hl]; rfl) (mk_one (qe _ ed))
  | _ => exact ifT rfl (ifT rfl (mk_one (qe _ rfl)))
end
end Ms
namespace Ms
open PySem PySem.Spec PyProof.Rows L2
/-! ### data told apart by its repr -/
/-- the code of the first sign -/
def hd? (z : Str) : Option Nat := z.cps.toList.head?
theorem hd_app {z y : Str} {c : Nat} (h : hd? z = some c) : hd? (z ++ y) = some c := by
  unfold hd? at h ⊢
  have e : (z ++ y).cps.toList = z.cps.toList ++ y.cps.toList := Array.toList_append
  rw [e]
  cases q : z.cps.toList with
  | nil => rw [q] at h; cases h
  | cons a r => rw [q] at h; exact h
theorem app_cps (z y : Str) : (z ++ y).cps.toList = z.cps.toList ++ y.cps.toList := Array.toList_append
/-- repr of a text, as signs -/
theorem repr_list (z : Str) : (reprText z).cps.toList = reprQuote z :: (z.cps.toList.flatMap (Builtin.Str.reprChar (reprQuote z)) ++ [reprQuote z]) := by
  have key : ∀ (l : List Nat) (acc : Array Nat) (q : Nat), (l.foldl (fun out c => out ++ (Builtin.Str.reprChar q c).toArray) acc).toList = acc.toList ++ l.flatMap (Builtin.Str.reprChar q) := by
    intro l
    induction l with
    | nil => intro acc q; simp
    | cons c r ih =>
      intro acc q
      rw [List.foldl_cons, ih, List.flatMap_cons, Array.toList_append]
      simp
  unfold reprText
  show (Array.push _ _).toList = _
  rw [Array.toList_push, ← Array.foldl_toList, key]
  simp
theorem reprChar_in {q c : Nat} {d : Nat} (h : d ∈ Builtin.Str.reprChar q c) (hl : ∀ d ∈ Builtin.Str.reprChar q c, 97 ≤ d ∧ d ≤ 122) : Builtin.Str.reprChar q c = [c] := by
  unfold Builtin.Str.reprChar at hl ⊢
  repeat' split
  all_goals first
    | rfl
    | (exfalso
       rename_i h1
       have z := hl 92 (by simp [*])
       omega)
    | (exfalso
       have z := hl 92 (by simp [*])
       omega)
def plainZ (w : Str) : Prop := ∀ c ∈ w.cps.toList, 97 ≤ c ∧ c ≤ 122
theorem flat_same {q : Nat} : ∀ (l w : List Nat), l.flatMap (Builtin.Str.reprChar q) = w → (∀ d ∈ w, 97 ≤ d ∧ d ≤ 122) → l = w
  | [], w, h, _ => by simpa using h
  | c :: r, w, h, hw => by
    rw [List.flatMap_cons] at h
    have hin : ∀ d ∈ Builtin.Str.reprChar q c, 97 ≤ d ∧ d ≤ 122 := fun d hd => hw d (by rw [← h]; exact List.mem_append_left _ hd)
    have ne : ∃ d, d ∈ Builtin.Str.reprChar q c := by
      unfold Builtin.Str.reprChar
      repeat' split
      all_goals exact ⟨_, List.mem_cons_self ..⟩
    obtain ⟨d, hd⟩ := ne
    have e := reprChar_in hd hin
    rw [e] at h
    have e2 := flat_same r (r.flatMap (Builtin.Str.reprChar q)) rfl (fun d hd => hw d (by rw [← h]; exact List.mem_append_right _ hd))
    rw [← h, ← e2]; rfl
theorem quote_plain {w : Str} (h : plainZ w) : reprQuote w = 39 := by
  unfold reprQuote
  have e : w.cps.contains 39 = false := by
    rw [Bool.eq_false_iff]
    intro z
    rw [Array.contains_iff_mem] at z
    have := h 39 (Array.mem_toList_iff.mpr z)
    omega
  rw [e]; rfl
theorem letter_repr : ∀ c : Nat, 97 ≤ c → c ≤ 122 → Builtin.Str.reprChar 39 c = [c] := by
  have key : ∀ j : Fin 26, Builtin.Str.reprChar 39 (97 + j.1) = [97 + j.1] := by decide +kernel
  intro c h1 h2
  have := key ⟨c - 97, by omega⟩
  have e : 97 + (c - 97) = c := by omega
  rw [e] at this
  exact this
theorem repr_plain {w : Str} (h : plainZ w) : (reprText w).cps.toList = 39 :: (w.cps.toList ++ [39]) := by
  rw [repr_list, quote_plain h]
  congr 2
  have key : ∀ l : List Nat, (∀ d ∈ l, 97 ≤ d ∧ d ≤ 122) → l.flatMap (Builtin.Str.reprChar 39) = l := by
    intro l
    induction l with
    | nil => intro _; rfl
    | cons c r ih =>
      intro hl
      obtain ⟨a, b⟩ := hl c (List.mem_cons_self ..)
      rw [List.flatMap_cons, letter_repr c a b, ih fun d hd => hl d (List.mem_cons_of_mem _ hd)]
      rfl
  exact key _ h
theorem str_ext {z y : Str} (h : z.cps.toList = y.cps.toList) : z = y := by
  cases z with
  | mk a =>
    cases y with
    | mk b =>
      have : a = b := Array.toList_inj.mp h
      rw [this]
theorem repr_str_inj {z w : Str} (h : plainZ w) (e : reprText z = reprText w) : z = w := by
  have e1 : (reprText z).cps.toList = (reprText w).cps.toList := by rw [e]
  rw [repr_list, repr_plain h] at e1
  obtain ⟨hq, e2⟩ := List.cons.inj e1
  rw [hq] at e2
  have e3 := List.append_cancel_right e2
  exact str_ext (flat_same _ _ e3 h)
/-- how the repr of data begins -/
theorem digit_lo : ∀ d : Nat, d < 10 → 48 ≤ (Nat.digitChar d).toNat ∧ (Nat.digitChar d).toNat ≤ 57 := by decide
theorem digits_lo (m : Nat) : ∀ c ∈ (Nat.toDigits 10 m).map Char.toNat, 48 ≤ c ∧ c ≤ 57 := by
  induction m using Nat.strongRecOn with
  | _ m ih =>
    by_cases h : m < 10
    · rw [Nat.toDigits_of_lt_base h]
      intro c hc
      rw [List.mem_singleton.mp hc]
      exact digit_lo m h
    · have hm : m % 10 < 10 := Nat.mod_lt m (by decide)
      have t : Nat.toDigits 10 (m / 10) ++ Nat.toDigits 10 (m % 10) = Nat.toDigits 10 (10 * (m / 10) + m % 10) := Nat.toDigits_append_toDigits (by decide) (by omega) hm
      rw [Nat.div_add_mod] at t
      rw [← t, List.map_append, Nat.toDigits_of_lt_base hm]
      intro c hc
      rcases List.mem_append.mp hc with hc | hc
      · exact ih (m / 10) (by omega) c hc
      · rw [List.mem_singleton.mp hc]
        exact digit_lo _ hm
theorem int_signs (i : Int) : ∀ c ∈ (Str.ofString (toString i)).cps.toList, c = 45 ∨ (48 ≤ c ∧ c ≤ 57) := by
  cases i with
  | ofNat n =>
    intro c hc
    have e := PySem.W.KIN.signs_num n
    rw [show (Int.ofNat n) = ((n : Nat) : Int) from rfl, e] at hc
    exact .inr (digits_lo n c hc)
  | negSucc n =>
    intro c hc
    have e : (Str.ofString (toString (Int.negSucc n))).cps.toList = 45 :: (Nat.toDigits 10 (n + 1)).map Char.toNat := by
      rw [signs_ofString]
      show ("-" ++ Nat.repr (n + 1)).toList.map Char.toNat = _
      rw [String.toList_append, List.map_append, Nat.toList_repr]
      rfl
    rw [e] at hc
    rcases List.mem_cons.mp hc with rfl | hc
    · exact .inl rfl
    · exact .inr (digits_lo _ c hc)
theorem shown_str {d : PyData} {w : Str} (hs : d.shown = reprText w) (h : plainZ w) : d = .str w := by
  have hl : d.shown.cps.toList = 39 :: (w.cps.toList ++ [39]) := by rw [hs, repr_plain h]
  have first : d.shown.cps.toList.head? = some 39 := by rw [hl]; rfl
  cases d with
  | str z =>
    simp only [PyData.shown] at hs
    rw [repr_str_inj h hs]
  | none => exact absurd first (by decide +kernel)
  | bool b => cases b <;> exact absurd first (by decide +kernel)
  | int i =>
    have e : (Str.ofString (toString i)).cps.toList = 39 :: (w.cps.toList ++ [39]) := hl
    have := int_signs i 39 (by rw [e]; exact List.mem_cons_self ..)
    omega
  | list xs =>
    exfalso
    simp only [PyData.shown] at first
    unfold listText at first
    have key : ∀ (ts : List Str) (k : Nat) (acc : Str), hd? acc = some 91 → hd? (textFrom k acc ts) = some 91 := by
      intro ts
      induction ts with
      | nil => intro k acc h; exact h
      | cons t r ih => intro k acc h; exact ih _ _ (hd_app (hd_app h))
    have z := hd_app (y := "]") (key (PyData.shownAll xs) 0 "[" (by decide +kernel))
    unfold hd? at z
    rw [z] at first
    cases first
  | tuple xs =>
    exfalso
    simp only [PyData.shown] at first
    unfold tupleText at first
    have z : hd? (("(" : Str) ++ Str.join ", " (PyData.shownAll xs) ++ (if (PyData.shownAll xs).length == 1 then ",)" else ")" : String)) = some 40 := hd_app (hd_app (by decide +kernel))
    unfold hd? at z
    rw [z] at first
    cases first
  | dict kvs =>
    exfalso
    simp only [PyData.shown] at first
    unfold dictText at first
    have z : hd? (("{" : Str) ++ Str.join ", " (PyData.shownKv kvs) ++ ("}" : String)) = some 123 := hd_app (hd_app (by decide +kernel))
    unfold hd? at z
    rw [z] at first
    cases first
theorem shown_eq {d : PyData} {w : Str} (h : plainZ w) : (d.shown = reprText w) ↔ d = .str w := ⟨fun e => shown_str e h, fun e => by rw [e]; simp only [PyData.shown]⟩
abbrev endT : Str := "('end',)"
theorem plain_end : plainZ "end" := by
  have e : ("end" : Str).cps.toList = [101, 110, 100] := by decide +kernel
  unfold plainZ
  rw [e]; decide
theorem shown_end {d : PyData} (hs : d.shown = endT) : d = .tuple [.str "end"] := by
  have hl : d.shown.cps.toList = [40, 39, 101, 110, 100, 39, 44, 41] := by rw [hs]; decide +kernel
  have first : d.shown.cps.toList.head? = some 40 := by rw [hl]; rfl
  cases d with
  | none => exact absurd first (by decide +kernel)
  | bool b => cases b <;> exact absurd first (by decide +kernel)
  | int i =>
    have e : (Str.ofString (toString i)).cps.toList = [40, 39, 101, 110, 100, 39, 44, 41] := hl
    have := int_signs i 40 (by rw [e]; exact List.mem_cons_self ..)
    omega
  | str z =>
    exfalso
    have e : (reprText z).cps.toList = [40, 39, 101, 110, 100, 39, 44, 41] := hl
    rw [repr_list] at e
    have q := (List.cons.inj e).1
    unfold reprQuote at q
    split at q <;> omega
  | list xs =>
    exfalso
    simp only [PyData.shown] at first
    unfold listText at first
    have key : ∀ (ts : List Str) (k : Nat) (acc : Str), hd? acc = some 91 → hd? (textFrom k acc ts) = some 91 := by
      intro ts
      induction ts with
      | nil => intro k acc h; exact h
      | cons t r ih => intro k acc h; exact ih _ _ (hd_app (hd_app h))
    have z := hd_app (y := "]") (key (PyData.shownAll xs) 0 "[" (by decide +kernel))
    unfold hd? at z
    rw [z] at first
    cases first
  | dict kvs =>
    exfalso
    simp only [PyData.shown] at first
    unfold dictText at first
    have z : hd? (("{" : Str) ++ Str.join ", " (PyData.shownKv kvs) ++ ("}" : String)) = some 123 := hd_app (hd_app (by decide +kernel))
    unfold hd? at z
    rw [z] at first
    cases first
  | tuple ds =>
    match ds with
    | [] =>
      have e : (PyData.tuple []).shown.cps.toList = [40, 41] := by decide +kernel
      rw [e] at hl
      cases hl
    | [x] =>
      have e : (PyData.tuple [x]).shown = ("(" : Str) ++ x.shown ++ (",)" : String) := rfl
      rw [e, app_cps, app_cps] at hl
      have e1 : ("(" : Str).cps.toList = [40] := by decide +kernel
      have e2 : ((",)" : String) : Str).cps.toList = [44, 41] := by decide +kernel
      have e3 : [40] ++ x.shown.cps.toList ++ [44, 41] = [40] ++ [39, 101, 110, 100, 39] ++ [44, 41] := by rw [← e1, ← e2]; rw [e1, e2]; exact (by rw [e1, e2] at hl; exact hl)
      have e4 := List.append_cancel_left (List.append_cancel_right e3)
      have e5 : x.shown = reprText "end" := str_ext (by
        rw [e4, repr_plain plain_end]
        decide +kernel)
      rw [shown_str e5 plain_end]
    | x :: y :: r =>
      exfalso
      have e : (PyData.tuple (x :: y :: r)).shown = ("(" : Str) ++ (x.shown ++ ", " ++ Str.join ", " (PyData.shownAll (y :: r))) ++ (if (PyData.shownAll (x :: y :: r)).length == 1 then ",)" else ")" : String) := rfl
      have hm : 32 ∈ (PyData.tuple (x :: y :: r)).shown.cps.toList := by
        rw [e, app_cps, app_cps, app_cps, app_cps]
        have e2 : ((", " : String) : Str).cps.toList = [44, 32] := by decide +kernel
        rw [e2]
        simp
      rw [hl] at hm
      exact absurd hm (by decide)
theorem end_shown : (PyData.tuple [.str "end"]).shown = endT := by decide +kernel
theorem nm_plain {z : Str} (h : ∀ c ∈ z.cps.toList, 97 ≤ c ∧ c ≤ 122) : plainZ z := h
end Ms
namespace Ms
open PySem PySem.Spec PyProof.Rows L2
/-! ### tuples of small ints told apart by their repr -/
theorem digits_two {n : Nat} (h : ¬ n < 10) : ∃ a b r, (Nat.toDigits 10 n).map Char.toNat = a :: b :: r := by
  have hm : n % 10 < 10 := Nat.mod_lt n (by decide)
  have t : Nat.toDigits 10 (n / 10) ++ Nat.toDigits 10 (n % 10) = Nat.toDigits 10 (10 * (n / 10) + n % 10) := Nat.toDigits_append_toDigits (by decide) (by omega) hm
  rw [Nat.div_add_mod] at t
  rw [← t, Nat.toDigits_of_lt_base hm, List.map_append]
  have ne : Nat.toDigits 10 (n / 10) ≠ [] := Nat.toDigits_ne_nil
  cases e : Nat.toDigits 10 (n / 10) with
  | nil => exact absurd e ne
  | cons a r =>
    cases r with
    | nil => exact ⟨_, _, _, rfl⟩
    | cons b r => exact ⟨_, _, _, rfl⟩
theorem digit_at : ∀ d : Nat, d < 10 → (Nat.digitChar d).toNat = 48 + d := by decide
theorem int_digit {k : Int} (h0 : 0 ≤ k) (h9 : k ≤ 9) : (Str.ofString (toString k)).cps.toList = [48 + k.toNat] := by
  obtain ⟨n, rfl⟩ : ∃ n : Nat, k = (n : Int) := ⟨k.toNat, by omega⟩
  rw [PySem.W.KIN.signs_num n, Nat.toDigits_of_lt_base (by omega)]
  show [(Nat.digitChar n).toNat] = _
  rw [digit_at n (by omega)]
  rfl
/-- an item that begins like a digit with a comma or the end behind it is that digit -/
theorem item_of {d : PyData} {k : Int} {rest rest' : List Nat} (h0 : 0 ≤ k) (h9 : k ≤ 9) (e : d.shown.cps.toList ++ rest = (48 + k.toNat) :: rest') (hr : rest'.head? = some 44 ∨ rest'.head? = some 41) : d = .int k ∧ rest = rest' := by
  have kb : 48 ≤ 48 + k.toNat ∧ 48 + k.toNat ≤ 57 := by omega
  have hd : ∀ {c : Nat}, d.shown.cps.toList.head? = some c → c = 48 + k.toNat := fun {c} h => by
    cases q : d.shown.cps.toList with
    | nil => rw [q] at h; cases h
    | cons a r =>
      rw [q] at h e
      have e1 := (List.cons.inj e).1
      have e2 := Option.some.inj h
      omega
  cases d with
  | none =>
    exfalso
    have := hd (c := 78) (by decide +kernel)
    omega
  | bool b =>
    exfalso
    cases b with
    | false =>
      have := hd (c := 70) (by decide +kernel)
      omega
    | true =>
      have := hd (c := 84) (by decide +kernel)
      omega
  | str z =>
    have e0 : (PyData.str z).shown = reprText z := by simp only [PyData.shown]
    have q : reprQuote z = 39 ∨ reprQuote z = 34 := by
      unfold reprQuote
      split
      · exact .inr rfl
      · exact .inl rfl
    have := hd (c := reprQuote z) (by rw [e0, repr_list]; rfl)
    omega
  | list xs =>
    exfalso
    have key : ∀ (ts : List Str) (k : Nat) (acc : Str), hd? acc = some 91 → hd? (textFrom k acc ts) = some 91 := by
      intro ts
      induction ts with
      | nil => intro k acc h; exact h
      | cons t r ih => intro k acc h; exact ih _ _ (hd_app (hd_app h))
    have z := hd_app (y := "]") (key (PyData.shownAll xs) 0 "[" (by decide +kernel))
    have := hd (c := 91) (by simp only [PyData.shown]; unfold listText; exact z)
    omega
  | tuple xs =>
    exfalso
    have z : hd? (("(" : Str) ++ Str.join ", " (PyData.shownAll xs) ++ (if (PyData.shownAll xs).length == 1 then ",)" else ")" : String)) = some 40 := hd_app (hd_app (by decide +kernel))
    have := hd (c := 40) (by simp only [PyData.shown]; unfold tupleText; exact z)
    omega
  | dict kvs =>
    exfalso
    have z : hd? (("{" : Str) ++ Str.join ", " (PyData.shownKv kvs) ++ ("}" : String)) = some 123 := hd_app (hd_app (by decide +kernel))
    have := hd (c := 123) (by simp only [PyData.shown]; unfold dictText; exact z)
    omega
  | int i =>
    have es : (PyData.int i).shown.cps.toList = (Str.ofString (toString i)).cps.toList := rfl
    rw [es] at e
    have one : (Str.ofString (toString i)).cps.toList = [48 + k.toNat] → PyData.int i = .int k ∧ rest = rest' := fun h => by
      rw [h] at e
      refine ⟨?_, (List.cons.inj e).2⟩
      cases i with
      | ofNat n =>
        rw [show (Int.ofNat n) = ((n : Nat) : Int) from rfl, PySem.W.KIN.signs_num n] at h
        by_cases hn : n < 10
        · rw [Nat.toDigits_of_lt_base hn] at h
          have h2 : [(Nat.digitChar n).toNat] = [48 + k.toNat] := h
          rw [digit_at n hn] at h2
          have h3 := (List.cons.inj h2).1
          show PyData.int ((n : Nat) : Int) = .int k
          congr 1
          omega
        · obtain ⟨a, b, r, h2⟩ := digits_two hn
          rw [h2] at h
          cases h
      | negSucc n =>
        have e : (Str.ofString (toString (Int.negSucc n))).cps.toList = 45 :: (Nat.toDigits 10 (n + 1)).map Char.toNat := by
          rw [signs_ofString]
          show ("-" ++ Nat.repr (n + 1)).toList.map Char.toNat = _
          rw [String.toList_append, List.map_append, Nat.toList_repr]
          rfl
        rw [e] at h
        have := (List.cons.inj h).1
        omega
    cases q : (Str.ofString (toString i)).cps.toList with
    | nil =>
      exfalso
      cases i with
      | ofNat n =>
        rw [show (Int.ofNat n) = ((n : Nat) : Int) from rfl, PySem.W.KIN.signs_num n] at q
        exact Nat.toDigits_ne_nil (List.map_eq_nil_iff.mp q)
      | negSucc n =>
        have e : (Str.ofString (toString (Int.negSucc n))).cps.toList = 45 :: (Nat.toDigits 10 (n + 1)).map Char.toNat := by
          rw [signs_ofString]
          show ("-" ++ Nat.repr (n + 1)).toList.map Char.toNat = _
          rw [String.toList_append, List.map_append, Nat.toList_repr]
          rfl
        rw [e] at q
        cases q
    | cons a r =>
      rw [q] at e
      cases r with
      | nil =>
        have ea := (List.cons.inj e).1
        exact one (by rw [q, ea])
      | cons b r =>
        exfalso
        have e2 := (List.cons.inj e).2
        have hb := int_signs i b (by rw [q]; simp)
        have hr2 : rest'.head? = some b := by rw [← e2]; rfl
        rcases hr with hr | hr <;> (rw [hr2] at hr; have := Option.some.inj hr; omega)
/-- the items' texts, joined -/
def joinS (ds : List PyData) : List Nat := (Str.join ", " (PyData.shownAll ds)).cps.toList
theorem join_one (x : PyData) : joinS [x] = x.shown.cps.toList := rfl
theorem join_more (x y : PyData) (r : List PyData) : joinS (x :: y :: r) = x.shown.cps.toList ++ (44 :: 32 :: joinS (y :: r)) := by
  have e : Str.join ", " (PyData.shownAll (x :: y :: r)) = x.shown ++ ", " ++ Str.join ", " (PyData.shownAll (y :: r)) := rfl
  unfold joinS
  rw [e, app_cps, app_cps]
  have e2 : ((", " : String) : Str).cps.toList = [44, 32] := by decide +kernel
  rw [e2, List.append_assoc]
  rfl
theorem tup_one (x : PyData) : (PyData.tuple [x]).shown.cps.toList = 40 :: (x.shown.cps.toList ++ [44, 41]) := by
  have e : (PyData.tuple [x]).shown = ("(" : Str) ++ x.shown ++ (",)" : String) := rfl
  rw [e, app_cps, app_cps]
  have e1 : ("(" : Str).cps.toList = [40] := by decide +kernel
  have e2 : ((",)" : String) : Str).cps.toList = [44, 41] := by decide +kernel
  rw [e1, e2]
  rfl
theorem tup_more (x y : PyData) (r : List PyData) : (PyData.tuple (x :: y :: r)).shown.cps.toList = 40 :: (joinS (x :: y :: r) ++ [41]) := by
  have e : (PyData.tuple (x :: y :: r)).shown = ("(" : Str) ++ Str.join ", " (PyData.shownAll (x :: y :: r)) ++ (if (PyData.shownAll (x :: y :: r)).length == 1 then ",)" else ")" : String) := rfl
  have e0 : (if (PyData.shownAll (x :: y :: r)).length == 1 then ",)" else ")" : String) = ")" := by
    show (if ((PyData.shownAll r).length + 1 + 1 == 1) = true then ",)" else ")" : String) = ")"
    rw [if_neg (by simp)]
  rw [e, e0, app_cps, app_cps]
  have e1 : ("(" : Str).cps.toList = [40] := by decide +kernel
  have e2 : ((")" : String) : Str).cps.toList = [41] := by decide +kernel
  rw [e1, e2]
  rfl
theorem shown_int {k : Int} (h0 : 0 ≤ k) (h9 : k ≤ 9) : (PyData.int k).shown.cps.toList = [48 + k.toNat] := int_digit h0 h9
theorem join_inj : ∀ (is : List Int) (ds : List PyData), is ≠ [] → ds ≠ [] → (∀ i ∈ is, 0 ≤ i ∧ i ≤ 9) → joinS ds ++ [41] = joinS (is.map .int) ++ [41] → ds = is.map .int
  | [], _, h, _, _, _ => absurd rfl h
  | _, [], _, h, _, _ => absurd rfl h
  | i :: is, d :: ds, _, _, hi, e => by
    obtain ⟨h0, h9⟩ := hi i (List.mem_cons_self ..)
    cases is with
    | nil =>
      rw [show List.map PyData.int [i] = [.int i] from rfl, join_one (.int i), shown_int h0 h9] at e
      cases ds with
      | nil =>
        rw [join_one] at e
        rw [(item_of h0 h9 e (.inr rfl)).1]
        rfl
      | cons d2 ds =>
        rw [join_more, List.append_assoc] at e
        have := (item_of h0 h9 e (.inr rfl)).2
        cases this
    | cons i2 is =>
      rw [show List.map PyData.int (i :: i2 :: is) = .int i :: .int i2 :: is.map .int from rfl, join_more, shown_int h0 h9] at e
      cases ds with
      | nil =>
        rw [join_one] at e
        have := (item_of h0 h9 e (.inl rfl)).2
        cases this
      | cons d2 ds =>
        rw [join_more, List.append_assoc] at e
        obtain ⟨e1, e2⟩ := item_of h0 h9 e (.inl rfl)
        have e3 : joinS (d2 :: ds) ++ [41] = joinS ((i2 :: is).map .int) ++ [41] := (List.cons.inj (List.cons.inj e2).2).2
        rw [e1, join_inj (i2 :: is) (d2 :: ds) nofun nofun (fun x hx => hi x (List.mem_cons_of_mem _ hx)) e3]
        rfl
theorem shown_ints {d : PyData} {is : List Int} (hi : ∀ i ∈ is, 0 ≤ i ∧ i ≤ 9) (hl : is ≠ []) (hs : d.shown = (PyData.tuple (is.map .int)).shown) : d = .tuple (is.map .int) := by
  have e : d.shown.cps.toList = (PyData.tuple (is.map .int)).shown.cps.toList := by rw [hs]
  obtain ⟨i, r, rfl⟩ : ∃ i r, is = i :: r := by
    cases is with
    | nil => exact absurd rfl hl
    | cons i r => exact ⟨i, r, rfl⟩
  obtain ⟨h0, h9⟩ := hi i (List.mem_cons_self ..)
  obtain ⟨tl, ht⟩ : ∃ tl, (PyData.tuple ((i :: r).map .int)).shown.cps.toList = 40 :: tl := by
    cases r with
    | nil => exact ⟨_, tup_one (.int i)⟩
    | cons j r => exact ⟨_, tup_more (.int i) (.int j) (r.map .int)⟩
  have first : d.shown.cps.toList.head? = some 40 := by rw [e, ht]; rfl
  cases d with
  | none => exact absurd first (by decide +kernel)
  | bool b => cases b <;> exact absurd first (by decide +kernel)
  | int j =>
    exfalso
    have es : (PyData.int j).shown.cps.toList = (Str.ofString (toString j)).cps.toList := rfl
    have := int_signs j 40 (by
      rw [← es]
      cases q : (PyData.int j).shown.cps.toList with
      | nil => rw [q] at first; cases first
      | cons a t => rw [q] at first; rw [Option.some.inj first]; exact List.mem_cons_self ..)
    omega
  | str z =>
    exfalso
    have e0 : (PyData.str z).shown = reprText z := by simp only [PyData.shown]
    rw [e0, repr_list] at first
    have q := Option.some.inj first
    unfold reprQuote at q
    split at q <;> omega
  | list xs =>
    exfalso
    simp only [PyData.shown] at first
    unfold listText at first
    have key : ∀ (ts : List Str) (k : Nat) (acc : Str), hd? acc = some 91 → hd? (textFrom k acc ts) = some 91 := by
      intro ts
      induction ts with
      | nil => intro k acc h; exact h
      | cons t r ih => intro k acc h; exact ih _ _ (hd_app (hd_app h))
    have z := hd_app (y := "]") (key (PyData.shownAll xs) 0 "[" (by decide +kernel))
    unfold hd? at z
    rw [z] at first
    cases first
  | dict kvs =>
    exfalso
    simp only [PyData.shown] at first
    unfold dictText at first
    have z : hd? (("{" : Str) ++ Str.join ", " (PyData.shownKv kvs) ++ ("}" : String)) = some 123 := hd_app (hd_app (by decide +kernel))
    unfold hd? at z
    rw [z] at first
    cases first
  | tuple ds =>
    cases r with
    | nil =>
      rw [show List.map PyData.int [i] = [.int i] from rfl, tup_one, shown_int h0 h9] at e
      match ds with
      | [] =>
        have e1 : (PyData.tuple []).shown.cps.toList = [40, 41] := by decide +kernel
        rw [e1] at e
        exact absurd (congrArg List.length e) (by simp)
      | [x] =>
        rw [tup_one] at e
        rw [(item_of h0 h9 (List.cons.inj e).2 (.inl rfl)).1]
        rfl
      | x :: y :: q =>
        rw [tup_more, join_more, List.append_assoc] at e
        have := (item_of h0 h9 (List.cons.inj e).2 (.inl rfl)).2
        cases this
    | cons j r =>
      rw [show List.map PyData.int (i :: j :: r) = .int i :: .int j :: r.map .int from rfl, tup_more] at e
      match ds with
      | [] =>
        have e1 : (PyData.tuple []).shown.cps.toList = [40, 41] := by decide +kernel
        rw [e1, join_more, shown_int h0 h9] at e
        have e3 := (List.cons.inj (List.cons.inj e).2).1
        exact absurd e3 (by omega)
      | [x] =>
        rw [tup_one, join_more, shown_int h0 h9] at e
        have := (item_of h0 h9 (List.cons.inj e).2 (.inl rfl)).2
        cases this
      | x :: y :: q =>
        rw [tup_more] at e
        rw [join_inj (i :: j :: r) (x :: y :: q) nofun nofun hi (List.cons.inj e).2]
end Ms
namespace Ms
open PySem PySem.Spec PyProof.Rows L2 RZ
/-! ### is_standing, need_standing of the package -/
theorem walk_zt {K : PySem.W.Frag} {a b : Addr} {xs ys : List V} {n : Nat} (hn : n = min xs.length ys.length) : Walk (ItzT K a b) n (fun H => SqT K H a xs ∧ SqT K H b ys) (YPair (fun i => xs[i]?) (fun i => ys[i]?)) := by
  subst hn
  refine ⟨fun i H hi q => ?_, fun H q => ?_, fun i H x H' hi q y => ?_⟩
  · have h1 : i < xs.length := by omega
    have h2 : i < ys.length := by omega
    exact ⟨xs, ys, _, _, q.1, q.2, List.getElem?_eq_getElem h1, List.getElem?_eq_getElem h2⟩
  · exact ⟨xs, ys, q.1, q.2, by omega⟩
  · obtain ⟨T, x', z, h1, h2, h3, h4, h5⟩ := y
    exact ⟨T, x', z, h1, h2, h3, h4 xs q.1, h5 ys q.2⟩
/-- a standing of the settings, told of any data -/
def standD (qs : List (Str × Int)) (d : PyData) : Bool := match d with
  | .tuple ds => decide (ds.length = qs.length) && (ds.zip qs).all fun p => isWhole p.1 0 p.2.2
  | _ => false
section
variable {P : Program} {w : World} {K : PySem.W.Frag} {mg : Str → Option Value} {base : Heap} {fI fN fS fA fG fSt fNs C fE : Addr}
abbrev NSt : List Str := ["settings", "thing", "value", "name", "most"]
theorem scSd : FnScope NSt ["settings", "thing"] (defScope sPStand) := ⟨rfl, rfl, rfl, by decide +kernel, rfl, by decide +kernel, by decide +kernel⟩
def spPStand (K : PySem.W.Frag) : Sp := fun vs H Q _ => ∃ (m l a : Addr) (xs : List V) (qs : List (Str × Int)) (v : V) (d : PyData), vs = [.ref a, v] ∧ SqT K H a xs ∧ PrTs K H xs qs ∧ qs.length ≤ 900 ∧ Dq K H m l v d ∧ ∀ H', Same H H' → Q (.bl (standD qs d)) H'
theorem ok_pstand {f : Addr} {fd fdI : FuncData} (F : Fun K "is_standing" "is_standing" sPStand f fd) (T : TxtP mg fI fN fS fA fG) (hz : mg "zip" = none) (FI : Fun K "is_int" "is_int" sPInt fI fdI) (bI : Binds K fdI ["thing"] []) : FnOk P w K mg base CX0 2 f fd ["settings", "thing"] (spPStand K) := by
  have GI : FnOk P w K mg base CX0 1 fI fdI ["thing"] (spPInt K) := ok_pint FI T
  refine F.ok scSd (fun vs H Q E h => ?_) (fun cdv A outer s H vs Q E hr h => ?_)
  · obtain ⟨m, l, a, xs, qs, v, d, rfl, _⟩ := h
    rfl
  obtain ⟨m, l, a, xs, qs, v, d, rfl, hs, hp, hl, hd, q⟩ := h
  have lx := hp.len
  refine ⟨_, pss_cons (ps_if (PW.pt (pw_or (pt_not (pt_val (pe_callB call_isi (by rfl) T.isi PyProof.Rows.boot_isinstance (pa_cons (pv 1) (pa_cons (pe_bltn (v := .ty "tuple") (u := .type "tuple") (by rfl) T.tuple (by decide +kernel) rfl) pa_nil)))))
      (pw_or1 (pt_cmpR op_ne (pe_callB call_len (by rfl) T.len PySem.boot_len (pa_cons (pv 1) pa_nil)) (pe_callB call_len (by rfl) T.len PySem.boot_len (pa_cons (pv 0) pa_nil)) (nomark _))))) (pss_one (ps_ret pe_bl)) pss_nil)
    (pss_cons (ps_for PassesOwn.never rfl (pi_zipA (by rfl) hz (pa_cons (pv 1) (pa_cons (pv 0) pa_nil)))
        (pg_tup rfl (pgs_cons (pg_name (i := 2) scSd.nd rfl (Or.inl rfl)) (pgs_cons (pg_tup rfl (pgs_cons (pg_name (i := 3) scSd.nd rfl (Or.inl rfl)) (pgs_cons (pg_name (i := 4) scSd.nd rfl (Or.inl rfl)) pgs_nil))) pgs_nil)))
        (pss_one (ps_if (PW.pt (pw_or (pt_not (pt_val (pe_call GI hr (by rfl) T.gI FI.kp bI .nil pass0 (pa_cons (pv 2) pa_nil)))) (pw_or1 (pt_not (pt_chain op_le op_le pe_int (pv 2) (pv 4)))))) (pss_one (ps_ret pe_bl)) pss_nil)))
      (pss_one (ps_ret pe_bl))), ?_⟩
  refine ⟨_, rfl, v, .ty "tuple", _, _, _, rfl, .ty _, hd.ty, isi_tup K d, _, rfl, ?_⟩
  cases d with
  | tuple es =>
    cases hd with
    | tup hq hy =>
      rename_i p ys
      have ly := hy.len
      refine ifF rfl ⟨_, rfl, .ref p, ys.length, rfl, .inr ⟨ys, hq, rfl⟩, _, rfl, .ref a, xs.length, rfl, .inr ⟨xs, hs, rfl⟩, rfl, _, rfl, ?_⟩
      have ee : decide (V.int ((ys.length : Nat) : Int) = V.int ((xs.length : Nat) : Int)) = decide (ys.length = xs.length) := by
        rw [Bool.eq_iff_iff, decide_eq_true_eq, decide_eq_true_eq, V.int.injEq]; omega
      rw [ee]
      by_cases hlen : ys.length = xs.length
      · refine ifF (by rw [decide_eq_true hlen]; rfl) ?_
        have es' : standD qs (.tuple es) = (es.zip qs).all fun p => isWhole p.1 0 p.2.2 := by
          show (decide (es.length = qs.length) && _) = _
          rw [decide_eq_true (by omega)]; rfl
        have lz : (es.zip qs).length = ys.length := by rw [List.length_zip]; omega
        refine ⟨_, rfl, _, rfl, p, a, ys, xs, rfl, .inr ⟨hq, hs, ?_⟩⟩
        refine for_zipT hlen (fun i σ H3 => ∃ v2 v3 v4 : Option V, σ = [some (.ref a), some (.ref p), v2, v3, v4] ∧ Same H H3 ∧ ((es.zip qs).all fun p => isWhole p.1 0 p.2.2) = (((es.zip qs).drop i).all fun p => isWhole p.1 0 p.2.2))
          ⟨none, none, none, rfl, Same.refl H, rfl⟩ (fun i σ H3 ⟨_, _, _, _, s3, _⟩ => ⟨Same.seqT s3 hq, Same.seqT s3 hs⟩) ?_ ?_
        · rintro i x1 y1 TT σ H3 e1 e2 ⟨v2, v3, v4, rfl, s3, g3⟩ hT
          obtain ⟨e, he, dqe⟩ := hy.get e1
          obtain ⟨qq, hqq, b, rfl, hb⟩ := hp.get e2
          have sT : Same H3 (upd H3 TT (.tup [x1, .ref b])) := Same.upd hT
          have s4 := s3.trans sT
          have ez : (es.zip qs)[i]? = some (e, qq) := by
            rw [List.getElem?_zip_eq_some]; exact ⟨he, hqq⟩
          have dr : (es.zip qs).drop i = (e, qq) :: (es.zip qs).drop (i + 1) := by
            obtain ⟨hi, hj⟩ := List.getElem?_eq_some_iff.mp ez
            rw [List.drop_eq_getElem_cons hi, hj]
          rw [dr, List.all_cons] at g3
          have bad : isWhole e 0 qq.2 = false → Q (.bl false) (upd H3 TT (.tup [x1, .ref b])) := fun h => by
            have : standD qs (.tuple es) = false := by rw [es', g3]; show (isWhole e 0 qq.2 && _) = false; rw [h]; rfl
            rw [← this]
            exact q _ s4
          have good : isWhole e 0 qq.2 = true → ((es.zip qs).all fun p => isWhole p.1 0 p.2.2) = (((es.zip qs).drop (i + 1)).all fun p => isWhole p.1 0 p.2.2) := fun h => by
            rw [g3]; show (isWhole e 0 qq.2 && _) = _; rw [h]; rfl
          refine ⟨TT, _, rfl, .inl (.inl upd_same), rfl, _, _, rfl, _, _, rfl, b, _, rfl, Same.seqT s4 hb, rfl, _, _, rfl, _, _, rfl, rfl, rfl, ?_⟩
          refine ⟨_, rfl, m, l, x1, e, rfl, Dq.same s4 e x1 dqe, _, rfl, ?_⟩
          cases e with
          | int j =>
            cases dqe
            refine ifF rfl ⟨_, rfl, 0, j, rfl, rfl, _, rfl, ite_b (fun h2 => ⟨_, rfl, j, qq.2, rfl, rfl, _, rfl, ite_b (fun h3 => bad ?_) (fun h3 => ⟨_, _, _, rfl, s4, good ?_⟩)⟩) (fun h2 => ⟨_, rfl, ifT rfl (bad ?_)⟩)⟩
            · show (decide (0 ≤ j) && decide (j ≤ qq.2)) = false
              have : decide (j ≤ qq.2) = false := by simpa using h3
              rw [this, Bool.and_false]
            · show (decide (0 ≤ j) && decide (j ≤ qq.2)) = true
              have : decide (j ≤ qq.2) = true := by simpa using h3
              rw [h2, this]; rfl
            · show (decide (0 ≤ j) && decide (j ≤ qq.2)) = false
              rw [h2]; rfl
          | _ => exact ifT rfl (bad rfl)
        · rintro σ H3 ⟨v2, v3, v4, rfl, s3, g3⟩
          rw [List.drop_of_length_le (by omega)] at g3
          have : standD qs (.tuple es) = true := by rw [es', g3]; rfl
          rw [← this]
          exact q _ s3
      · have es' : standD qs (.tuple es) = false := by
          show (decide (es.length = qs.length) && _) = false
          rw [decide_eq_false (by omega)]; rfl
        rw [es'] at q
        exact ifT (by rw [decide_eq_false hlen]; rfl) (q H (Same.refl H))
  | _ => exact ifT rfl (ifT rfl (q H (Same.refl H)))
end
end Ms
namespace Ms
open PySem PySem.Spec PyProof.Rows L2 RZ
/-! ### _law_begin, _law_gone -/
def keptOf : List Str → List Int → List Int
  | z :: zs, v :: vs => (if z = "begin" then v else -1) :: keptOf zs vs
  | _, _ => []
theorem keptOf_len : ∀ (zs : List Str) (st : List Int), (keptOf zs st).length = min zs.length st.length
  | [], _ => by simp [keptOf]
  | _ :: _, [] => by simp [keptOf]
  | z :: zs, v :: vs => by simp [keptOf, keptOf_len zs vs]
theorem keptOf_take : ∀ (zs : List Str) (st : List Int) (i : Nat) (z : Str) (v : Int), zs[i]? = some z → st[i]? = some v → (keptOf zs st).take (i + 1) = (keptOf zs st).take i ++ [if z = "begin" then v else -1]
  | [], _, i, z, v, h, _ => by simp at h
  | _ :: _, [], i, z, v, _, h => by simp at h
  | z' :: zs, v' :: vs, 0, z, v, h1, h2 => by
    cases h1
    cases h2
    rfl
  | z' :: zs, v' :: vs, i + 1, z, v, h1, h2 => by
    have := keptOf_take zs vs i z v (by simpa using h1) (by simpa using h2)
    show _ :: (keptOf zs vs).take (i + 1) = _ :: ((keptOf zs vs).take i ++ _)
    rw [this]
/-- a value as it is read, by what is kept -/
def valAt (st ks : List Int) (i : Nat) : Int := if 0 ≤ ks.getD i (-1) then ks.getD i (-1) else st.getD i 0
def keepAt (zs : List Str) (st ks : List Int) (i : Nat) : List Int := if zs.getD i "" = "live" then ks else (ks.take i ++ [valAt st ks i]) ++ ks.drop (i + 1)
def kOk (qs : List (Str × Int)) (ks : List Int) : Prop := ks.length = qs.length ∧ ∀ (i : Nat) (q : Str × Int) (v : Int), qs[i]? = some q → ks[i]? = some v → -1 ≤ v ∧ v ≤ q.2
section
variable {P : Program} {w : World} {K : PySem.W.Frag} {mg : Str → Option Value} {base : Heap} {fN fM fBe fGo : Addr}
abbrev NBe : List Str := ["modes", "standing", "mode", "value"]
theorem scBg : FnScope NBe ["modes", "standing"] (defScope sBegin) := ⟨rfl, rfl, rfl, by decide +kernel, rfl, by decide +kernel, by decide +kernel⟩
def spBegin (K : PySem.W.Frag) : Sp := fun vs H Q _ => ∃ (pM pT : Addr) (zs : List Str) (st : List Int), vs = [.ref pM, .ref pT] ∧ SqT K H pM (zs.map V.str) ∧ SqT K H pT (st.map V.int) ∧ zs.length = st.length ∧ st.length ≤ 900 ∧
  ∀ p pk H', Same H H' → SqT K H' pk ((keptOf zs st).map V.int) → H' p = some (.tup [.int 0, .ref pT, .ref pk]) → Q (.ref p) H'
theorem ok_begin {f : Addr} {fd : FuncData} (F : Fun K "_law_begin" "_law_begin" sBegin f fd) (T : TxtN mg fN) : FnOk P w K mg base CX0 1 f fd ["modes", "standing"] (spBegin K) := by
  refine F.ok scBg (fun vs H Q E h => ?_) (fun cdv A outer s H vs Q E hr h => ?_)
  · obtain ⟨pM, pT, zs, st, rfl, _⟩ := h
    rfl
  obtain ⟨pM, pT, zs, st, rfl, hM, hT, hl, hk, q⟩ := h
  refine ⟨_, pss_one (ps_ret (pe_tup (pa_cons pe_int (pa_cons (pv 1) (pa_cons (pe_callTy call_tuple_of (by rfl) T.tuple (by decide +kernel) (pa_cons (pe_lc (own := [("mode", 2), ("value", 3)]) (g := gTup K 2 (gCons (gName 2) (gCons (gName 3) gNil))) (by rfl) scBg.nd (pi_zipA (by rfl) T.zip (pa_cons (pv 0) (pa_cons (pv 1) pa_nil))) (blkOk_by (own := [("mode", 2), ("value", 3)]) (N := NBe) (sc := defScope sBegin) (by decide +kernel))
    (fun _ _ _ _ _ => pg_tup rfl (pgs_cons (pg_name (i := 2) scBg.nd rfl (Or.inl rfl)) (pgs_cons (pg_name (i := 3) scBg.nd rfl (Or.inl rfl)) pgs_nil))) (fun _ _ _ _ _ => pts_nil) (fun _ _ _ _ _ => pe_ifExp (pt_cmpR op_eq (pv 2) pe_str (nomark _)) (pv 3) (pe_un un_neg pe_int))) pa_nil)) pa_nil))))), ?_⟩
  refine ⟨_, rfl, _, rfl, _, rfl, pM, pT, _, _, rfl, .inr ⟨hM, hT, fun D hD => ?_⟩⟩
  refine lc_it (walk_zt (xs := zs.map V.str) (ys := st.map V.int) rfl) (fun i H3 => Same H H3 ∧ H3 D = some (.lst (((keptOf zs st).take i).map V.int)))
    ⟨Same.upd hD, by rw [upd_same]; rfl⟩ (fun i H3 _ ⟨s3, _⟩ => ⟨Same.seqT s3 hM, Same.seqT s3 hT⟩) ?_ ?_
  · rintro i x H3 H4 hi ⟨s3, g3⟩ ⟨TT, x1, x2, rfl, hTT, rfl, e1, e2⟩
    have e1 : (zs.map V.str)[i]? = some x1 := e1
    have e2 : (st.map V.int)[i]? = some x2 := e2
    rw [List.getElem?_map] at e1 e2
    obtain ⟨z, hz, rfl⟩ : ∃ z, zs[i]? = some z ∧ x1 = .str z := by
      cases e : zs[i]? with
      | none => rw [e] at e1; cases e1
      | some z => rw [e] at e1; exact ⟨z, rfl, (Option.some.inj e1).symm⟩
    obtain ⟨v, hv, rfl⟩ : ∃ v, st[i]? = some v ∧ x2 = .int v := by
      cases e : st[i]? with
      | none => rw [e] at e2; cases e2
      | some z => rw [e] at e2; exact ⟨z, rfl, (Option.some.inj e2).symm⟩
    have ti := keptOf_take zs st i z v hz hv
    have lk := keptOf_len zs st
    have s4 : Same H (upd H3 TT (.tup [.str z, .int v])) := s3.trans (Same.upd hTT)
    have gD : (upd H3 TT (.tup [.str z, .int v])) D = some (.lst (((keptOf zs st).take i).map V.int)) := (Same.upd hTT) _ _ g3
    have fin : ∀ b : Int, b = (if z = "begin" then v else -1) → ∃ acc, (upd H3 TT (.tup [.str z, .int v])) D = some (.lst acc) ∧ acc.length < sizeLine ∧ (Same H (upd (upd H3 TT (.tup [.str z, .int v])) D (.lst (acc ++ [.int b]))) ∧ (upd (upd H3 TT (.tup [.str z, .int v])) D (.lst (acc ++ [.int b]))) D = some (.lst (((keptOf zs st).take (i + 1)).map V.int))) := fun b eb => by
      refine ⟨_, gD, small1000 (by rw [List.length_map, List.length_take]; omega), fun c o hc => ?_, ?_⟩
      · rw [upd_ne (ne_of_none hc hD)]; exact s4 c o hc
      · rw [upd_same, ti, eb, List.map_append]; rfl
    refine ⟨TT, _, rfl, .inl (.inl upd_same), rfl, _, _, rfl, _, _, rfl, rfl, rfl, tyes ?_⟩
    refine ⟨_, rfl, rfl, _, rfl, ?_⟩
    by_cases e : z = "begin"
    · exact ifT (by rw [e]; rfl) ⟨_, rfl, fin v (by rw [if_pos e])⟩
    · exact ifF (decide_eq_false fun h => e (V.str.inj h)) ⟨_, rfl, fin (-1) (by rw [if_neg e])⟩
  · rintro H3 ⟨s3, g3⟩
    have lk := keptOf_len zs st
    rw [List.take_of_length_le (by rw [lk, List.length_map, List.length_map]; exact Nat.le_refl _)] at g3
    refine ⟨D, _, rfl, .inl ⟨SqL.of g3, fun p hp => ⟨(by show 3 ≤ sizeLine; decide), fun p2 hp2 => ?_⟩⟩⟩
    have s4 : Same H3 (upd H3 p (.tup ((keptOf zs st).map V.int))) := Same.upd hp
    have s5 : Same (upd H3 p (.tup ((keptOf zs st).map V.int))) (upd (upd H3 p (.tup ((keptOf zs st).map V.int))) p2 (.tup [.int 0, .ref pT, .ref p])) := Same.upd hp2
    exact q p2 p _ (s3.trans (s4.trans s5)) (Same.seqT s5 (.inl (.inl upd_same))) upd_same
abbrev NGo : List Str := ["spots", "places", "modes", "spot", "here", "standing", "kept", "at", "value", "name", "most"]
theorem scGo : FnScope NGo ["spots", "places", "modes", "spot"] (defScope sGone) := ⟨rfl, rfl, rfl, by decide +kernel, rfl, by decide +kernel, by decide +kernel⟩
def spGone (K : PySem.W.Frag) : Sp := fun vs H Q _ => ∃ (pS pP pM pX pT pK : Addr) (xs ps : List V) (qs : List (Str × Int)) (h : Nat) (v : V) (d : PyData) (many : Int) (zs : List Str) (st ks : List Int), vs = [.ref pS, .ref pP, .ref pM, .ref pX] ∧ SqT K H pS xs ∧ PrTs K H xs qs ∧ qs.length ≤ 900 ∧ (qs.map (·.1)).Nodup ∧
  SqT K H pP ps ∧ ps[h]? = some v ∧ PlA K H qs many v d ∧ SqT K H pM (zs.map V.str) ∧ zs.length = qs.length ∧ SqT K H pX [.int (h : Int), .ref pT, .ref pK] ∧ SqT K H pT (st.map V.int) ∧ SqT K H pK (ks.map V.int) ∧ stOk qs st ∧ kOk qs ks ∧
  (d = .tuple [.str "end"] → ∀ p H', Same H H' → H' p = some (.tup [.non, .non]) → Q (.ref p) H') ∧
  (∀ z r, d = .tuple [.str "do", .str z, .int r] → ∀ p p2 H', Same H H' → SqT K H' p2 [.int r, .ref pT, .ref pK] → H' p = some (.tup [.str z, .ref p2]) → Q (.ref p) H') ∧
  (∀ (q : Str × Int) (ns : List Int) (i : Nat) (r : Int), d = .tuple [.str "ask", .str q.1, .tuple (ns.map .int)] → qs[i]? = some q → ns[(valAt st ks i).toNat]? = some r → ∀ p p2 pk H', Same H H' → SqT K H' pk ((keepAt zs st ks i).map V.int) → SqT K H' p2 [.int r, .ref pT, .ref pk] → H' p = some (.tup [.non, .ref p2]) → Q (.ref p) H')
theorem ok_gone {f : Addr} {fd : FuncData} (F : Fun K "_law_gone" "_law_gone" sGone f fd) (T : TxtN mg fN) : FnOk P w K mg base CX0 1 f fd ["spots", "places", "modes", "spot"] (spGone K) := by
  refine F.ok scGo (fun vs H Q E h => ?_) (fun cdv A outer s H vs Q E hr h => ?_)
  · obtain ⟨pS, pP, pM, pX, pT, pK, xs, ps, qs, h, v, d, many, zs, st, ks, rfl, _⟩ := h
    rfl
  obtain ⟨pS, pP, pM, pX, pT, pK, xs, ps, qs, h, v, d, many, zs, st, ks, rfl, hS, hp, hl, hn, hP, hv, pl, hM, zl, hX, hT, hK, so, ko, q1, q2, q3⟩ := h
  have lx := hp.len
  have finish : ∃ t, PSs (cxOf CX0 P w K mg base NGo "_law_gone" (defScope sGone) f cdv A outer s H E).nox ((defBody sGone).drop 5) t ∧ ∀ (G : Hp) (b c : Addr) (q : Str × Int) (ns : List Int) (i : Nat) (zi : Str) (r va : Int) (v9 v10 : Option V), Same H G → va = valAt st ks i → 0 ≤ va → zs[i]? = some zi → i < ks.length → SqT K G b [.str "ask", .str q.1, .ref c] → SqT K G c (ns.map V.int) → ns[va.toNat]? = some r → ks.length ≤ 900 →
      (∀ p p2 pk H', Same G H' → SqT K H' pk ((keepAt zs st ks i).map V.int) → SqT K H' p2 [.int r, .ref pT, .ref pk] → H' p = some (.tup [.non, .ref p2]) → Q (.ref p) H') →
      t ({ nx := fun _ H' => Q .non H', rt := Q } : Ends) [some (.ref pS), some (.ref pP), some (.ref pM), some (.ref pX), some (.ref b), some (.ref pT), some (.ref pK), some (.int (i : Int)), some (.int va), v9, v10] G := by
    refine ⟨_, pss_cons (ps_if (pt_cmpR op_ne (pe_ix (show IxR _ (rIxT K) from ix_tup) (pv 2) (pv 7) (fun _ _ => rfl)) pe_str (nomark _))
        (pss_one (ps_set (i := 6) scGo.nd rfl (Or.inl rfl) (pe_op op_catA (pe_op op_catA (pe_slice sl_tupA (pv 6) po_none (po_some (pv 7))) (pe_tup (pa_cons (pv 8) pa_nil))) (pe_slice sl_tupA (pv 6) (po_some (pe_op op_add (pv 7) pe_int)) po_none)))) pss_nil)
      (pss_one (ps_ret (pe_tup (pa_cons pe_non (pa_cons (pe_tup (pa_cons (pe_ix (show IxR _ (rIxT K) from ix_tup) (pe_ix (show IxR _ (rIxT K) from ix_tup) (pv 4) pe_int (fun _ _ => rfl)) (pv 8) (fun _ _ => rfl)) (pa_cons (pv 5) (pa_cons (pv 6) pa_nil)))) pa_nil))))), ?_⟩
    intro G b c q ns i zi r va v9 v10 sG eva v0 ez hki hb hc hr k9 nx
    have ret : ∀ (G' : Hp) (pk : Addr), Same G G' → SqT K G' pk ((keepAt zs st ks i).map V.int) → ∃ y, some (some (V.ref b)) = some (some y) ∧ ∃ (p1 : Addr) (xs1 : List V) (i1 : Int) (v1 : V), y = .ref p1 ∧ V.int 2 = .int i1 ∧ SqT K G' p1 xs1 ∧ atI xs1 i1 = some v1 ∧ ∃ y2, some (some (V.int va)) = some (some y2) ∧ ∃ (p3 : Addr) (xs3 : List V) (i3 : Int) (v3 : V), v1 = .ref p3 ∧ y2 = .int i3 ∧ SqT K G' p3 xs3 ∧ atI xs3 i3 = some v3 ∧ v3 = .int r := fun G' pk s' hk => by
      have evn : va = ((va.toNat : Nat) : Int) := by omega
      refine ⟨_, rfl, b, _, 2, .ref c, rfl, rfl, Same.seqT s' hb, rfl, _, rfl, c, _, va, .int r, rfl, rfl, Same.seqT s' hc, ?_, rfl⟩
      rw [evn]
      exact atI_nat (by rw [List.getElem?_map, hr]; rfl)
    have aC : atI (ns.map V.int) va = some (.int r) := by
      have evn : va = ((va.toNat : Nat) : Int) := by omega
      rw [evn]
      exact atI_nat (by rw [List.getElem?_map, hr]; rfl)
    clear ret
    refine ⟨_, rfl, _, rfl, pM, _, (i : Int), .str zi, rfl, rfl, Same.seqT sG hM, atI_nat (by rw [List.getElem?_map, ez]; rfl), rfl, _, rfl, ?_⟩
    by_cases e : zi = "live"
    · have ek : keepAt zs st ks i = ks := by
        unfold keepAt
        rw [if_pos (by rw [List.getD_eq_getElem?_getD, ez]; exact e)]
      refine ifF (by rw [e]; rfl) ?_
      refine ⟨_, rfl, b, _, 2, .ref c, rfl, rfl, hb, rfl, _, rfl, c, _, va, .int r, rfl, rfl, hc, aC, _, rfl, _, rfl, (by show 3 ≤ sizeLine; decide), fun p2 hp2 => ⟨(by show 2 ≤ sizeLine; decide), fun p hp => ?_⟩⟩
      have s4 : Same G (upd G p2 (.tup [.int r, .ref pT, .ref pK])) := Same.upd hp2
      have s5 : Same (upd G p2 (.tup [.int r, .ref pT, .ref pK])) (upd (upd G p2 (.tup [.int r, .ref pT, .ref pK])) p (.tup [.non, .ref p2])) := Same.upd hp
      exact nx p p2 pK _ (s4.trans s5) (by rw [ek]; exact Same.seqT (s4.trans s5) (Same.seqT sG hK)) (Same.seqT s5 (.inl (.inl upd_same))) upd_same
    · have ek : keepAt zs st ks i = (ks.take i ++ [va]) ++ ks.drop (i + 1) := by
        unfold keepAt
        rw [if_neg (by rw [List.getD_eq_getElem?_getD, ez]; exact e), eva]
      refine ifT (by simp only [Bool.not_eq_true', decide_eq_false_iff_not]; exact fun h => e (V.str.inj h)) ?_
      have hKG := Same.seqT sG hK
      have lk : (ks.map V.int).length = ks.length := List.length_map ..
      refine ⟨_, rfl, _, rfl, _, rfl, slA_any hKG fun p1 H1 s1 c1 => ?_⟩
      rw [cut_to (by omega)] at c1
      refine ⟨_, rfl, (by show 1 ≤ sizeLine; decide), fun p2 hp2 => catA_any (Same.seqT (Same.upd hp2) c1) (.inl (.inl upd_same)) (Nat.le_of_lt (small1000 (by simp; omega))) fun p3 H3 s3 c3 => ?_⟩
      have s13 := s1.trans ((Same.upd (o := .tup [.int va]) hp2).trans s3)
      refine ⟨_, rfl, _, rfl, _, _, rfl, rfl, _, rfl, noPart (slA_any (Same.seqT s13 hKG) fun p4 H4 s4 c4 => ?_)⟩
      rw [cut_from1 (by omega)] at c4
      refine catA_any (Same.seqT s4 c3) c4 (Nat.le_of_lt (small1000 (by simp; omega))) fun pk H5 s5 c5 => ?_
      have s15 := s13.trans (s4.trans s5)
      have c5' : SqT K H5 pk ((keepAt zs st ks i).map V.int) := by
        rw [ek, List.map_append, List.map_append, List.map_take, List.map_drop]
        exact c5
      refine ⟨_, rfl, b, _, 2, .ref c, rfl, rfl, Same.seqT s15 hb, rfl, _, rfl, c, _, va, .int r, rfl, rfl, Same.seqT s15 hc, aC, _, rfl, _, rfl, (by show 3 ≤ sizeLine; decide), fun p6 hp6 => ⟨(by show 2 ≤ sizeLine; decide), fun p hp => ?_⟩⟩
      have s6 : Same H5 (upd H5 p6 (.tup [.int r, .ref pT, .ref pk])) := Same.upd hp6
      have s7 : Same (upd H5 p6 (.tup [.int r, .ref pT, .ref pk])) (upd (upd H5 p6 (.tup [.int r, .ref pT, .ref pk])) p (.tup [.non, .ref p6])) := Same.upd hp
      exact nx p p6 pk _ (s15.trans (s6.trans s7)) (Same.seqT (s6.trans s7) c5') (Same.seqT s7 (.inl (.inl upd_same))) upd_same
  obtain ⟨tF, dF, zF⟩ := finish
  refine ⟨_, pss_cons (ps_par3 (i := 4) (j := 5) (l := 6) (by rfl) scGo.nd rfl rfl rfl (by decide) (by decide) (by decide) rfl rfl rfl
      (pa_cons (pe_ix (show IxR _ (rIxT K) from ix_tup) (pv 1) (pe_ix (show IxR _ (rIxT K) from ix_tup) (pv 3) pe_int (fun _ _ => rfl)) (fun _ _ => rfl)) (pa_cons (pe_ix (show IxR _ (rIxT K) from ix_tup) (pv 3) pe_int (fun _ _ => rfl)) (pa_cons (pe_ix (show IxR _ (rIxT K) from ix_tup) (pv 3) pe_int (fun _ _ => rfl)) pa_nil))) (by rfl))
    (pss_cons (ps_if (pt_cmpR op_eq (pe_ix (show IxR _ (rIxT K) from ix_tup) (pv 4) pe_int (fun _ _ => rfl)) pe_str (nomark _))
      (pss_one (ps_ret (pe_tup (pa_cons (pe_ix (show IxR _ (rIxT K) from ix_tup) (pv 4) pe_int (fun _ _ => rfl)) (pa_cons (pe_tup (pa_cons (pe_ix (show IxR _ (rIxT K) from ix_tup) (pv 4) pe_int (fun _ _ => rfl)) (pa_cons (pv 5) (pa_cons (pv 6) pa_nil)))) pa_nil))))) pss_nil)
    (pss_cons (ps_if (pt_cmpR op_eq (pe_ix (show IxR _ (rIxT K) from ix_tup) (pv 4) pe_int (fun _ _ => rfl)) pe_str (nomark _))
      (pss_one (ps_ret (pe_tup (pa_cons pe_non (pa_cons pe_non pa_nil))))) pss_nil)
    (pss_cons (ps_set (i := 7) scGo.nd rfl (Or.inl rfl) (pe_bm PySem.F.plainAttrs_list PySem.F.slot_list_index PySem.F.type_list_index mt_index
      (pe_lc (own := [("name", 9), ("most", 10)]) (g := gTup K 2 (gCons (gName 9) (gCons (gName 10) gNil))) (by rfl) scGo.nd (pi_tup (pv 0)) (blkOk_by (own := [("name", 9), ("most", 10)]) (N := NGo) (sc := defScope sGone) (by decide +kernel))
        (fun _ _ _ _ _ => pg_tup rfl (pgs_cons (pg_name (i := 9) scGo.nd rfl (Or.inl rfl)) (pgs_cons (pg_name (i := 10) scGo.nd rfl (Or.inl rfl)) pgs_nil))) (fun _ _ _ _ _ => pts_nil) (fun _ _ _ _ _ => pv 9))
      (pa_cons (pe_ix (show IxR _ (rIxT K) from ix_tup) (pv 4) pe_int (fun _ _ => rfl)) pa_nil)))
    (pss_cons (ps_set (i := 8) scGo.nd rfl (Or.inl rfl) (pe_ifExp (pt_cmpR op_ge (pe_ix (show IxR _ (rIxT K) from ix_tup) (pv 6) (pv 7) (fun _ _ => rfl)) pe_int (nomark _)) (pe_ix (show IxR _ (rIxT K) from ix_tup) (pv 6) (pv 7) (fun _ _ => rfl)) (pe_ix (show IxR _ (rIxT K) from ix_tup) (pv 5) (pv 7) (fun _ _ => rfl))))
    dF)))), ?_⟩
  refine ⟨_, rfl, _, rfl, pX, _, 0, .int (h : Int), rfl, rfl, hX, rfl, pP, ps, (h : Int), v, rfl, rfl, hP, atI_nat hv, _, rfl, pX, _, 1, .ref pT, rfl, rfl, hX, rfl, _, rfl, pX, _, 2, .ref pK, rfl, rfl, hX, rfl, _, _, _, rfl, ?_⟩
  cases pl with
  | @fin b hb =>
    refine ⟨_, rfl, b, _, 0, .str "end", rfl, rfl, hb, rfl, rfl, _, rfl, ifF (by decide) ?_⟩
    refine ⟨_, rfl, b, _, 0, .str "end", rfl, rfl, hb, rfl, rfl, _, rfl, ifT (by decide) ?_⟩
    exact ⟨(by show 2 ≤ sizeLine; decide), fun p hp => q1 rfl p _ (Same.upd hp) upd_same⟩
  | @deed b z r hb hz r0 r1 =>
    refine ⟨_, rfl, b, _, 0, .str "do", rfl, rfl, hb, rfl, rfl, _, rfl, ifT (by decide) ?_⟩
    refine ⟨_, rfl, b, _, 1, .str z, rfl, rfl, hb, rfl, _, rfl, b, _, 2, .int r, rfl, rfl, hb, rfl, _, rfl, _, rfl, (by show 3 ≤ sizeLine; decide), fun p2 hp2 => ⟨(by show 2 ≤ sizeLine; decide), fun p hp => ?_⟩⟩
    exact q2 z r rfl p p2 _ ((Same.upd hp2).trans (Same.upd hp)) (Same.seqT (Same.upd hp) (.inl (.inl upd_same))) upd_same
  | @ask b c qq ns hq hb hc hl2 hx =>
    obtain ⟨q2', j1, j2, j3⟩ := idxN_at (z := qq.1) (qs := qs) (List.mem_map_of_mem hq)
    obtain ⟨i, ei⟩ : ∃ i, i = idxN qq.1 qs := ⟨_, rfl⟩
    rw [← ei] at j1 j3
    have eqq : q2' = qq := by
      obtain ⟨j, hj⟩ := List.mem_iff_getElem?.mp hq
      have a1 : (qs.map (·.1))[i]? = some qq.1 := by rw [List.getElem?_map, j1]; exact congrArg some j2
      have a2 : (qs.map (·.1))[j]? = some qq.1 := by rw [List.getElem?_map, hj]; rfl
      obtain ⟨b1, c1⟩ := List.getElem?_eq_some_iff.mp a1
      obtain ⟨b2, c2⟩ := List.getElem?_eq_some_iff.mp a2
      have : i = j := (List.getElem_inj hn).mp (c1.trans c2.symm)
      rw [this, hj] at j1
      exact (Option.some.inj j1).symm
    subst eqq
    obtain ⟨b1, _⟩ := List.getElem?_eq_some_iff.mp j1
    have hsi : i < st.length := by rw [so.1]; exact b1
    have hki : i < ks.length := by rw [ko.1]; exact b1
    have hzi : i < zs.length := by rw [zl]; exact b1
    have es : st[i]? = some st[i] := List.getElem?_eq_getElem hsi
    have ek : ks[i]? = some ks[i] := List.getElem?_eq_getElem hki
    have ez : zs[i]? = some zs[i] := List.getElem?_eq_getElem hzi
    have sb := so.2 _ _ _ j1 es
    have kb := ko.2 _ _ _ j1 ek
    have ea : valAt st ks i = if 0 ≤ ks[i] then ks[i] else st[i] := by
      unfold valAt
      rw [List.getD_eq_getElem?_getD, List.getD_eq_getElem?_getD, ek, es]; rfl
    have hva : 0 ≤ valAt st ks i ∧ valAt st ks i ≤ q2'.2 := by
      rw [ea]
      split <;> omega
    obtain ⟨r, hr⟩ : ∃ r, ns[(valAt st ks i).toNat]? = some r := ⟨_, List.getElem?_eq_getElem (by omega)⟩
    have s1 := j2
    refine ⟨_, rfl, b, _, 0, .str "ask", rfl, rfl, hb, rfl, rfl, _, rfl, ifF (by decide) ?_⟩
    refine ⟨_, rfl, b, _, 0, .str "ask", rfl, rfl, hb, rfl, rfl, _, rfl, ifF (by decide) ?_⟩
    refine ⟨_, rfl, pS, rfl, ⟨_, hS⟩, fun D hD => ?_⟩
    refine lc_it (walk_tup (xs := xs)) (fun i H3 => H3 = upd H D (.lst (((qs.take i).map (·.1)).map V.str))) rfl (fun i H3 _ e3 => by rw [e3]; exact Same.seqT (Same.upd hD) hS) ?_ ?_
    · rintro i x H3 H4 hi e3 ⟨rfl, hx⟩
      obtain ⟨qq, hq, b, rfl, hb⟩ := hp.get hx
      have hb3 : SqT K H4 b [.str qq.1, .int qq.2] := by rw [e3]; exact Same.seqT (Same.upd hD) hb
      have ti : qs.take (i + 1) = qs.take i ++ [qq] := by rw [List.take_succ, hq]; rfl
      refine ⟨b, _, rfl, hb3, rfl, _, _, rfl, _, _, rfl, rfl, rfl, tyes ⟨_, rfl, _, by rw [e3]; exact upd_same, small1000 (by rw [List.length_map, List.length_map, List.length_take]; omega), ?_⟩⟩
      show upd H4 D _ = _
      rw [e3, upd_upd, ti, List.map_append, List.map_append]
      rfl
    · rintro H3 e3
      rw [List.take_of_length_le (by omega)] at e3
      have s3 : Same H H3 := e3 ▸ Same.upd hD
      have gD : H3 D = some (.lst ((qs.map (·.1)).map V.str)) := by rw [e3, upd_same]
      refine ⟨.inl ⟨rfl, _, SqL.of gD⟩, _, rfl, b, _, 1, .str q2'.1, rfl, rfl, Same.seqT s3 hb, rfl, ?_⟩
      refine ⟨D, _, .str q2'.1, i, .str q2'.1, rfl, rfl, SqL.of gD, rfl, ?_, ?_, ?_, fun m z' hm hz => ?_, ?_⟩
      · rw [List.all_eq_true]
        intro x hx
        obtain ⟨y, _, rfl⟩ := List.mem_map.mp hx
        rfl
      · rw [List.getElem?_map, List.getElem?_map, j1]; rfl
      · rw [eqV_str]; exact decide_eq_true rfl
      · rw [List.getElem?_map, List.getElem?_map] at hz
        cases e : qs[m]? with
        | none => rw [e] at hz; cases hz
        | some q3 =>
          rw [e] at hz
          cases hz
          rw [eqV_str]
          exact decide_eq_false (j3 m q3 hm e)
      have aK : atI (ks.map V.int) ((i : Nat) : Int) = some (.int ks[i]) := atI_nat (by rw [List.getElem?_map, ek]; rfl)
      have aT : atI (st.map V.int) ((i : Nat) : Int) = some (.int st[i]) := atI_nat (by rw [List.getElem?_map, es]; rfl)
      have aM : atI (zs.map V.str) ((i : Nat) : Int) = some (.str zs[i]) := atI_nat (by rw [List.getElem?_map, ez]; rfl)
      have k9 : ks.length ≤ 900 := by have := ko.1; omega
      have go : ∀ va, va = valAt st ks i → tF ({ nx := fun _ H' => Q .non H', rt := Q } : Ends) [some (.ref pS), some (.ref pP), some (.ref pM), some (.ref pX), some (.ref b), some (.ref pT), some (.ref pK), some (.int (i : Int)), some (.int va), none, none] H3 := fun va eva =>
        zF H3 b c q2' ns i zs[i] r va none none s3 eva (by rw [eva]; exact hva.1) ez hki (Same.seqT s3 hb) (Same.seqT s3 hc) (by rw [eva]; exact hr) k9 fun p p2 pk H' s' h1 h2 h3 => q3 q2' ns i r rfl j1 hr p p2 pk H' (s3.trans s') h1 h2 h3
      refine ⟨_, rfl, _, rfl, pK, _, (i : Int), .int ks[i], rfl, rfl, Same.seqT s3 hK, aK, _, _, rfl, rfl, _, rfl, ?_⟩
      by_cases e : 0 ≤ ks[i]
      · refine ifT (decide_eq_true e) ?_
        exact ⟨_, rfl, _, rfl, pK, _, (i : Int), .int ks[i], rfl, rfl, Same.seqT s3 hK, aK, go _ (by rw [ea, if_pos e])⟩
      · refine ifF (decide_eq_false e) ?_
        exact ⟨_, rfl, _, rfl, pT, _, (i : Int), .int st[i], rfl, rfl, Same.seqT s3 hT, aT, go _ (by rw [ea, if_neg e])⟩
end
end Ms
namespace Ms
open PySem PySem.Spec PyProof.Rows L2 RZ
/-! ### _law_plain -/
def noK (st : List Int) : List Int := st.map fun _ => -1
theorem kept_live : ∀ (st : List Int), keptOf (List.replicate st.length "live") st = noK st
  | [] => rfl
  | v :: st => by
    show (if ("live" : Str) = "begin" then v else -1) :: keptOf (List.replicate st.length "live") st = -1 :: noK st
    rw [if_neg (by decide), kept_live st]
theorem noK_at {st : List Int} {i : Nat} : (noK st).getD i (-1) = -1 := by
  unfold noK
  rw [List.getD_eq_getElem?_getD, List.getElem?_map]
  cases st[i]? <;> rfl
theorem noK_ok {qs : List (Str × Int)} {st : List Int} (h : stOk qs st) : kOk qs (noK st) := by
  refine ⟨by unfold noK; rw [List.length_map]; exact h.1, fun i q v h1 h2 => ?_⟩
  unfold noK at h2
  rw [List.getElem?_map] at h2
  cases e : st[i]? with
  | none => rw [e] at h2; cases h2
  | some u =>
    rw [e] at h2
    cases h2
    have := h.2 i q u h1 e
    show (-1 : Int) ≤ -1 ∧ (-1 : Int) ≤ q.2
    omega
theorem noK_val {st : List Int} {i : Nat} : valAt st (noK st) i = st.getD i 0 := by
  unfold valAt
  rw [noK_at, if_neg (by decide)]
theorem noK_keep {st : List Int} {n i : Nat} (h : i < n) : keepAt (List.replicate n "live") st (noK st) i = noK st := by
  unfold keepAt
  rw [if_pos (by rw [List.getD_eq_getElem?_getD, List.getElem?_replicate, if_pos h]; rfl)]
section
variable {P : Program} {w : World} {K : PySem.W.Frag} {mg : Str → Option Value} {base : Heap} {fN fM fBe fGo : Addr}
abbrev NLp : List Str := ["spots", "places", "standing", "modes", "spot", "row", "turn", "name"]
theorem scLp : FnScope NLp ["spots", "places", "standing"] (defScope sPlain) := ⟨rfl, rfl, rfl, by decide +kernel, rfl, by decide +kernel, by decide +kernel⟩
def spLPlain (K : PySem.W.Frag) : Sp := fun vs H Q _ => ∃ (m l pS pP pT : Addr) (xs ps : List V) (qs : List (Str × Int)) (ds : List PyData) (st : List Int), vs = [.ref pS, .ref pP, .ref pT] ∧ SqT K H pS xs ∧ PrTs K H xs qs ∧ 1 ≤ qs.length ∧ qs.length ≤ 900 ∧ (qs.map (·.1)).Nodup ∧
  SqT K H pP ps ∧ DqAll K H m l ps ds ∧ (∀ d ∈ ds, plD qs (ds.length : Int) d) ∧ 1 ≤ ds.length ∧ ds.length ≤ 16 ∧ SqT K H pT (st.map V.int) ∧ stOk qs st ∧
  (plainR qs ds st = none → ∀ H', Same H H' → Q .non H') ∧ ∀ row, plainR qs ds st = some row → ∀ p H', Same H H' → SqT K H' p (row.map V.str) → Q (.ref p) H'
theorem ok_lplain {f : Addr} {fd fdBe fdGo : FuncData} (F : Fun K "_law_plain" "_law_plain" sPlain f fd) (T : TxtN mg fN) (gBe : mg "_law_begin" = some (.ref fBe)) (gGo : mg "_law_gone" = some (.ref fGo))
    (FBe : Fun K "_law_begin" "_law_begin" sBegin fBe fdBe) (bBe : Binds K fdBe ["modes", "standing"] []) (FGo : Fun K "_law_gone" "_law_gone" sGone fGo fdGo) (bGo : Binds K fdGo ["spots", "places", "modes", "spot"] []) : FnOk P w K mg base CX0 2 f fd ["spots", "places", "standing"] (spLPlain K) := by
  have GBe : FnOk P w K mg base CX0 1 fBe fdBe ["modes", "standing"] (spBegin K) := ok_begin FBe T
  have GGo : FnOk P w K mg base CX0 1 fGo fdGo ["spots", "places", "modes", "spot"] (spGone K) := ok_gone FGo T
  refine F.ok scLp (fun vs H Q E h => ?_) (fun cdv A outer s H vs Q E hr h => ?_)
  · obtain ⟨m, l, pS, pP, pT, xs, ps, qs, ds, st, rfl, _⟩ := h
    rfl
  obtain ⟨m, l, pS, pP, pT, xs, ps, qs, ds, st, rfl, hS, hp, q1, hl, hn, hP, hps, hpl, d1, d16, hT, so, qn, qr⟩ := h
  have lx := hp.len
  have lps := hps.len
  have lst := so.1
  have cl := pl_next so hn hpl
  have e0 : plainR qs ds st = walkD qs st ds (ds.length + 1) 0 [] := (walk_more cl (by omega) []).symm
  have finish : ∃ t, PSs (cxOf CX0 P w K mg base NLp "_law_plain" (defScope sPlain) f cdv A outer s H E).nox ((defBody sPlain).drop 1) t ∧ ∀ (G : Hp) (pM : Addr), Same H G → SqT K G pM ((List.replicate st.length ("live" : Str)).map V.str) →
      t ({ nx := fun _ H' => Q .non H', rt := Q } : Ends) [some (.ref pS), some (.ref pP), some (.ref pT), some (.ref pM), none, none, none, none] G := by
    refine ⟨_, pss_cons (ps_par (i := 4) (j := 5) (by rfl) scLp.nd rfl rfl (by decide) rfl rfl (pa_cons (pe_call GBe hr (by rfl) gBe FBe.kp bBe .nil pass0 (pa_cons (pv 3) (pa_cons (pv 2) pa_nil))) (pa_cons (pe_tup pa_nil) pa_nil)) (by rfl))
      (pss_cons (ps_for PassesOwn.never rfl (pi_range1 (by rfl) T.range (pa_cons (pe_op op_add (pe_callB call_len (by rfl) T.len PySem.boot_len (pa_cons (pv 1) pa_nil)) pe_int) pa_nil)) (pg_name (i := 6) scLp.nd rfl (Or.inl rfl))
        (pss_cons (ps_asg (pe_call GGo hr (by rfl) gGo FGo.kp bGo .nil pass0 (pa_cons (pv 0) (pa_cons (pv 1) (pa_cons (pv 3) (pa_cons (pv 4) pa_nil))))) (pg_tup rfl (pgs_cons (pg_name (i := 7) scLp.nd rfl (Or.inl rfl)) (pgs_cons (pg_name (i := 4) scLp.nd rfl (Or.inl rfl)) pgs_nil))))
        (pss_cons (ps_if (pt_cmpR op_isN (pv 4) pe_non (nomark _)) (pss_one (ps_ret (pv 5))) pss_nil)
        (pss_one (ps_set (i := 5) scLp.nd rfl (Or.inl rfl) (pe_op op_catA (pv 5) (pe_ifExp (pt_cmpR op_notN (pv 7) pe_non (nomark _)) (pe_tup (pa_cons (pv 7) pa_nil)) (pe_tup pa_nil))))))))
      (pss_one (ps_ret pe_non))), ?_⟩
    intro G pM sG hM
    refine ⟨_, rfl, _, rfl, pM, pT, _, st, rfl, hM, Same.seqT sG hT, List.length_replicate, by omega, fun pX pK H1 s1 hK gX => ⟨Nat.zero_le _, fun pR hpR => ⟨_, _, rfl, ?_⟩⟩⟩
    rw [kept_live] at hK
    have sR : Same H1 (upd H1 pR (.tup [])) := Same.upd hpR
    have s2 := sG.trans (s1.trans sR)
    refine ⟨_, rfl, .ref pP, ps.length, rfl, .inr ⟨ps, Same.seqT s2 hP, rfl⟩, _, _, rfl, rfl, _, rfl, by omega, by omega, ?_⟩
    refine for_range (lo := 0) (n := (((ps.length : Nat) : Int) + 1).toNat) (fun i σ H7 => ∃ (v6 v7 : Option V) (pX pR pK : Addr) (acc : List Str) (h : Nat), σ = [some (.ref pS), some (.ref pP), some (.ref pT), some (.ref pM), some (.ref pX), some (.ref pR), v6, v7] ∧ Same H H7 ∧ SqT K H7 pM ((List.replicate st.length ("live" : Str)).map V.str) ∧ SqT K H7 pX [.int (h : Int), .ref pT, .ref pK] ∧ SqT K H7 pK ((noK st).map V.int) ∧ SqT K H7 pR (acc.map V.str) ∧
        acc.length ≤ i ∧ h < ds.length ∧ plainR qs ds st = walkD qs st ds (ds.length + 1 - i) h acc)
      ⟨none, none, pX, pR, pK, [], 0, rfl, s2, Same.seqT (s1.trans sR) hM, Same.seqT sR (.inl (.inl gX)), Same.seqT sR hK, .inl (.inl upd_same), Nat.le_refl _, by omega, e0⟩ ?_ ?_
    · rintro i σ H7 hi ⟨v6, v7, pX, pR, pK, acc, h, rfl, s7, hM7, hX7, hK7, hR7, al, hh, ew⟩
      have hi' : i < ds.length + 1 := by omega
      have hps7 : DqAll K H7 m l ps ds := DqAll.same s7 _ _ hps
      obtain ⟨y, hy⟩ : ∃ y, ps[h]? = some y := ⟨_, List.getElem?_eq_getElem (by omega)⟩
      obtain ⟨e, he, dqe⟩ := hps7.get hy
      have hpe := hpl e (List.mem_of_getElem? he)
      have eg : ds.getD h .none = e := by rw [List.getD_eq_getElem?_getD, he]; rfl
      have pa := pl_at dqe hpe
      obtain ⟨k, ek⟩ : ∃ k, ds.length + 1 - i = k + 1 := ⟨ds.length - i, by omega⟩
      have ek1 : ds.length + 1 - (i + 1) = k := by omega
      rw [ek] at ew
      have lrep : (List.replicate st.length ("live" : Str)).length = qs.length := by rw [List.length_replicate]; exact lst
      refine ⟨_, rfl, _, rfl, _, rfl, _, rfl, pS, pP, pM, pX, pT, pK, xs, ps, qs, h, y, e, (ds.length : Int), _, st, noK st, rfl, Same.seqT s7 hS, hp.same s7, hl, hn, Same.seqT s7 hP, hy, pa, hM7, lrep, hX7, Same.seqT s7 hT, hK7, so, noK_ok so, fun ee p H8 s8 g8 => ?_, fun z r ee p p2 H8 s8 g2 g8 => ?_, fun q ns j r ee hq hr p p2 pk H8 s8 gk g2 g8 => ?_⟩
      · rw [walk_end (by rw [eg, ee]; rfl)] at ew
        refine ⟨p, _, rfl, .inl (.inl g8), rfl, _, _, rfl, _, _, rfl, rfl, ?_⟩
        exact ⟨_, rfl, rfl, _, rfl, ifT rfl ⟨_, rfl, qr acc ew pR H8 (s7.trans s8) (Same.seqT s8 hR7)⟩⟩
      · have g : goD qs st (ds.getD h .none) = some (some z, r) := by rw [eg, ee]; rfl
        rw [walk_go g] at ew
        have rn := cl h _ _ hh g
        have r0 : 0 ≤ r := by
          rcases hpe with e1 | ⟨z1, r1, e1, _, h0, _⟩ | ⟨q1, _, ns1, e1, _⟩
          · rw [ee] at e1; cases e1
          · rw [ee] at e1; cases e1; exact h0
          · rw [ee] at e1; cases e1
        obtain ⟨r', rfl⟩ : ∃ r' : Nat, r = (r' : Int) := ⟨r.toNat, by omega⟩
        refine ⟨p, _, rfl, .inl (.inl g8), rfl, _, _, rfl, _, _, rfl, rfl, ?_⟩
        refine ⟨_, rfl, rfl, _, rfl, ifF rfl ?_⟩
        refine ⟨_, rfl, _, rfl, rfl, _, rfl, ifT rfl ⟨_, rfl, (by show 1 ≤ sizeLine; decide), fun p3 h3 => ?_⟩⟩
        have s3 : Same H8 (upd H8 p3 (.tup [.str z])) := Same.upd h3
        refine catA_any (Same.seqT (s8.trans s3) hR7) (.inl (.inl upd_same)) (Nat.le_of_lt (small1000 (by simp; omega))) fun p4 H4 s4 c4 => ?_
        have s74 := s8.trans (s3.trans s4)
        refine ⟨_, _, p2, p4, pK, acc ++ [z], r', rfl, s7.trans s74, Same.seqT s74 hM7, Same.seqT (s3.trans s4) g2, Same.seqT s74 hK7, ?_, by simp; omega, rn, ?_⟩
        · rw [List.map_append]; exact c4
        · rw [ek1]; exact ew
      · have gk' := gk
        have hjl : j < st.length := by
          obtain ⟨b1, _⟩ := List.getElem?_eq_some_iff.mp hq
          rw [lst]; exact b1
        rw [noK_keep (by exact hjl)] at gk'
        rw [noK_val] at hr
        have hq' : q ∈ qs := List.mem_of_getElem? hq
        have hl2 : (ns.length : Int) = q.2 + 1 := by
          rcases hpe with e1 | ⟨z1, r1, e1, _, h0, _⟩ | ⟨q1, hq1, ns1, e1, e2, _⟩
          · rw [ee] at e1; cases e1
          · rw [ee] at e1; cases e1
          · rw [ee] at e1
            have a := PyData.tuple.inj e1
            simp only [List.cons.injEq, PyData.str.injEq, PyData.tuple.injEq, and_true, true_and] at a
            obtain ⟨a1, a2⟩ := a
            have en : ns.length = ns1.length := by
              have := congrArg List.length a2
              simpa using this
            have eq1 : q1 = q := by
              obtain ⟨i1, hi1⟩ := List.mem_iff_getElem?.mp hq1
              have b1 : (qs.map (·.1))[j]? = some q.1 := by rw [List.getElem?_map, hq]; rfl
              have b2 : (qs.map (·.1))[i1]? = some q.1 := by rw [List.getElem?_map, hi1, a1]; rfl
              obtain ⟨c1, d1⟩ := List.getElem?_eq_some_iff.mp b1
              obtain ⟨c2, d2⟩ := List.getElem?_eq_some_iff.mp b2
              have : j = i1 := (List.getElem_inj hn).mp (d1.trans d2.symm)
              rw [← this, hq] at hi1
              exact (Option.some.inj hi1).symm
            rw [en, ← eq1]; exact e2
        obtain ⟨i2, v2, r2, h3, h4, h5, w0, w1, h6, h7, h8⟩ := go_ask (w := "ask") so hn hq' hl2
        have ej : i2 = j := by
          have b1 : (qs.map (·.1))[j]? = some q.1 := by rw [List.getElem?_map, hq]; rfl
          have b2 : (qs.map (·.1))[i2]? = some q.1 := by rw [List.getElem?_map, h3]; rfl
          obtain ⟨c1, d1⟩ := List.getElem?_eq_some_iff.mp b1
          obtain ⟨c2, d2⟩ := List.getElem?_eq_some_iff.mp b2
          exact (List.getElem_inj hn).mp (d2.trans d1.symm)
        subst ej
        have er : r = r2 := by
          have e5 : st.getD i2 0 = v2 := by rw [List.getD_eq_getElem?_getD, h5]; rfl
          rw [e5, h6] at hr
          exact (Option.some.inj hr).symm
        subst er
        have g : goD qs st (ds.getD h .none) = some (none, r) := by rw [eg, ee]; exact h8
        rw [walk_go g] at ew
        have rn := cl h _ _ hh g
        have r0 : 0 ≤ r := by
          rcases hpe with e1 | ⟨z1, r1, e1, _, h0, _⟩ | ⟨q1, hq1, ns1, e1, e2, hx⟩
          · rw [ee] at e1; cases e1
          · rw [ee] at e1; cases e1
          · rw [ee] at e1
            have a := PyData.tuple.inj e1
            simp only [List.cons.injEq, PyData.str.injEq, PyData.tuple.injEq, and_true, true_and] at a
            have en : ns = ns1 := (List.map_inj_right fun x y h => PyData.int.inj h).mp a.2
            exact (hx r (en ▸ h7)).1
        obtain ⟨r', rfl⟩ : ∃ r' : Nat, r = (r' : Int) := ⟨r.toNat, by omega⟩
        refine ⟨p, _, rfl, .inl (.inl g8), rfl, _, _, rfl, _, _, rfl, rfl, ?_⟩
        refine ⟨_, rfl, rfl, _, rfl, ifF rfl ?_⟩
        refine ⟨_, rfl, _, rfl, rfl, _, rfl, ifF rfl ⟨Nat.zero_le _, fun p3 h3 => ?_⟩⟩
        have s3 : Same H8 (upd H8 p3 (.tup [])) := Same.upd h3
        refine catA_any (Same.seqT (s8.trans s3) hR7) (.inl (.inl upd_same)) (Nat.le_of_lt (small1000 (by simp; omega))) fun p4 H4 s4 c4 => ?_
        have s74 := s8.trans (s3.trans s4)
        refine ⟨_, _, p2, p4, pk, acc, r', rfl, s7.trans s74, Same.seqT s74 hM7, Same.seqT (s3.trans s4) g2, Same.seqT (s3.trans s4) gk', ?_, by omega, rn, ?_⟩
        · rw [List.append_nil] at c4; exact c4
        · rw [ek1, ew]; simp
    · rintro σ H7 ⟨v6, v7, pX, pR, pK, acc, h, rfl, s7, hM7, hX7, hK7, hR7, al, hh, ew⟩
      have ez : ds.length + 1 - (((ps.length : Nat) : Int) + 1).toNat = 0 := by omega
      rw [ez] at ew
      exact qn ew H7 s7
  obtain ⟨tF, dF, zF⟩ := finish
  refine ⟨_, pss_cons (ps_set (i := 3) scLp.nd rfl (Or.inl rfl) (pe_op op_rep1 (pe_tup (pa_cons pe_str pa_nil)) (pe_callB call_len (by rfl) T.len PySem.boot_len (pa_cons (pv 0) pa_nil)))) dF, ?_⟩
  refine ⟨(by show 1 ≤ sizeLine; decide), fun p9 h9 => ?_⟩
  have s9 : Same H (upd H p9 (.tup [.str "live"])) := Same.upd h9
  refine ⟨_, rfl, .ref pS, xs.length, rfl, .inr ⟨xs, Same.seqT s9 hS, rfl⟩, p9, (xs.length : Int), [V.str "live"], rfl, rfl, .inl (.inl upd_same), (fun z => nomatch z), by omega, by omega, (by show 1 ≤ 1000; decide), fun e1 => ?_, fun e2 p2 hp2 => ?_⟩
  · refine zF _ p9 s9 ?_
    have : st.length = 1 := by omega
    rw [this]
    exact .inl (.inl upd_same)
  · refine zF _ p2 (s9.trans (Same.upd hp2)) (.inl (.inl ?_))
    have e3 : (xs.length : Int).toNat = st.length := by omega
    have e4 : (List.replicate st.length [V.str "live"]).flatten = (List.replicate st.length ("live" : Str)).map V.str := by
      generalize st.length = k
      induction k with
      | zero => rfl
      | succ k ih => rw [List.replicate_succ, List.flatten_cons, ih]; rfl
    rw [upd_same, e3, e4]
end
end Ms
namespace Ms
open PySem PySem.Spec PyProof.Rows L2 RZ
/-! ### errors with one field of another name; need_standing -/
structure ErrF (K : PySem.W.Frag) (C fE : Addr) (n : Str) : Prop where
  ox : OexC K C
  ini : PySem.W.findIn K (.ref C) "__init__" = some (some (.ref fE))
  ty : PySem.W.typeIn K (.ref fE) = some (.type "function")
  no : PySem.W.findIn K (.ref C) n = some none
def spIniF (C : Addr) (n : Str) : Sp := fun vs H Q _ => ∃ (a : Addr) (y : V), vs = [.ref a, y] ∧ H a = some (exo a C none) ∧ ∀ dx, H dx = none → dx ≠ a → Q .non (upd (upd H dx (exd dx [(n, y)])) a (exo a C (some dx)))
theorem mk_oneF {C : Addr} {n : Str} {H1 : Hp} {y : V} {Q : XK} (h : ∀ d H', H1 d = none → Same H1 H' → H' d = some (.xd [(n, y)]) → Q (.ref C) (some d) H') :
    [y].length ≤ 1000 ∧ ∀ a, H1 a = none → spIniF C n (.ref a :: ([y] ++ [])) (upd H1 a (exo a C none))
      (fun v H2 => v = .non ∧ ∃ (d : Addr) (fs : List (Str × V)), H2 a = some (exo a C (some d)) ∧ H2 d = some (exd d fs) ∧ H1 d = none ∧ Q (.ref C) (some d) (upd (del H2 a) d (.xd fs))) (fun _ _ _ => False) := by
  refine ⟨(by show 1 ≤ 1000; decide), fun a ha => ⟨a, y, rfl, upd_same, fun dx h1 h2 => ?_⟩⟩
  have hd : H1 dx = none := by rw [upd_ne h2] at h1; exact h1
  refine ⟨rfl, dx, [(n, y)], upd_same, by rw [upd_ne h2, upd_same], hd, h dx _ hd (fun b o e => ?_) upd_same⟩
  rw [upd_ne (ne_of_none e hd), del_ne (ne_of_none e ha), upd_ne (ne_of_none e ha), upd_ne (ne_of_none e hd), upd_ne (ne_of_none e ha)]
  exact e
section
variable {P : Program} {w : World} {K : PySem.W.Frag} {mg : Str → Option Value} {base : Heap} {fI fN fS fA fG fSt fNs C fE : Addr}
theorem scIv : FnScope ["self", "value"] ["self", "value"] (defScope sIniS) := ⟨rfl, rfl, rfl, by decide +kernel, rfl, by decide +kernel, by decide +kernel⟩
theorem ok_iniV {fd : FuncData} {qual : Str} (F : Fun K "__init__" qual sIniS fE fd) (TE : ErrF K C fE "value") : FnOk P w K mg base CX0 1 fE fd ["self", "value"] (spIniF C "value") := by
  refine F.ok scIv (fun vs H Q E h => ?_) (fun cdv A outer s H vs Q E hr h => ?_)
  · obtain ⟨a, y, rfl, _⟩ := h
    rfl
  · obtain ⟨a, y, rfl, e, q⟩ := h
    exact ⟨_, pss_one (ps_ost (pv 0) (pv 1)), ⟨_, rfl, _, rfl, a, C, rfl, TE.ox, TE.no, .inl ⟨e, fun dx h1 h2 => q dx h1 h2⟩⟩⟩
abbrev NNs : List Str := ["settings", "thing"]
theorem scNs : FnScope NNs ["settings", "thing"] (defScope sNStand) := ⟨rfl, rfl, rfl, by decide +kernel, rfl, by decide +kernel, by decide +kernel⟩
def spNStand (K : PySem.W.Frag) (C : Addr) : Sp := fun vs H Q E => ∃ (m l a : Addr) (xs : List V) (qs : List (Str × Int)) (v : V) (d : PyData), vs = [.ref a, v] ∧ SqT K H a xs ∧ PrTs K H xs qs ∧ qs.length ≤ 900 ∧ Dq K H m l v d ∧
  (standD qs d = true → ∀ H', Same H H' → Q .non H') ∧ (standD qs d = false → ∀ dx H', H dx = none → Same H H' → H' dx = some (.xd [("value", v)]) → E (.ref C) (some dx) H')
theorem ok_nstand {f : Addr} {fd fdI fdSt fdE : FuncData} {qual : Str} (F : Fun K "need_standing" "need_standing" sNStand f fd) (T : TxtP mg fI fN fS fA fG) (hz : mg "zip" = none) (hst : mg "is_standing" = some (.ref fSt)) (gC : mg "BadStanding" = some (.ref C)) (TE : ErrF K C fE "value")
    (FI : Fun K "is_int" "is_int" sPInt fI fdI) (bI : Binds K fdI ["thing"] []) (FSt : Fun K "is_standing" "is_standing" sPStand fSt fdSt) (bSt : Binds K fdSt ["settings", "thing"] []) (FE : Fun K "__init__" qual sIniS fE fdE) (bE : Binds K fdE ["self", "value"] []) :
    FnOk P w K mg base (L2.CX P w) 3 f fd ["settings", "thing"] (spNStand K C) := by
  have GSt : FnOk P w K mg base CX0 2 fSt fdSt ["settings", "thing"] (spPStand K) := ok_pstand FSt T hz FI bI
  have GE : FnOk P w K mg base CX0 1 fE fdE ["self", "value"] (spIniF C "value") := ok_iniV FE TE
  refine F.okX scNs (fun vs H Q E h => ?_) (fun cdv A outer s H vs Q E hr h => ?_)
  · obtain ⟨m, l, a, xs, qs, v, d, rfl, _⟩ := h
    rfl
  obtain ⟨m, l, a, xs, qs, v, d, rfl, hs, hp, hl, hd, q, qe⟩ := h
  refine ⟨_, pss_one (ps_if (pt_not (pt_val (pe_call GSt hr (by rfl) hst FSt.kp bSt .nil pass0 (pa_cons (pv 0) (pa_cons (pv 1) pa_nil)))))
      (pss_one (ps_raise rfl (takes_of rfl rfl rfl rfl) (pmk_oex TE.ox TE.ini TE.ty GE hr bE .nil pass0 (by rfl) gC (pa_cons (pv 1) pa_nil)))) pss_nil), ?_⟩
  refine ⟨_, rfl, _, rfl, m, l, a, xs, qs, v, d, rfl, hs, hp, hl, hd, fun H' s' => ⟨_, rfl, ?_⟩⟩
  cases e : standD qs d with
  | true => exact ifF rfl (q e H' s')
  | false => exact ifT rfl ⟨_, rfl, mk_oneF fun dx H2 h1 h2 h3 => qe e dx H2 (Same.free s' h1) (s'.trans h2) h3⟩
end
end Ms
namespace Ms
open PySem PySem.Spec PyProof.Rows L2
/-! ### Request.__init__ -/
/-- all that was there stays, but at one place -/
def SameX (x : Addr) (H H' : Hp) : Prop := ∀ b o, b ≠ x → H b = some o → H' b = some o
theorem SameX.refl (x : Addr) (H : Hp) : SameX x H H := fun _ _ _ e => e
theorem SameX.thenS {x : Addr} {H H' H'' : Hp} (k : SameX x H H') (s : Same H' H'') : SameX x H H'' := fun b o n e => s b o (k b o n e)
theorem SameX.thenU {x : Addr} {H H' : Hp} {o : HO} (k : SameX x H H') : SameX x H (upd H' x o) := fun b o n e => by rw [upd_ne n]; exact k b o n e
theorem SameX.seqT {K : PySem.W.Frag} {x C dx : Addr} {fs : List (Str × V)} {H H' : Hp} (k : SameX x H H') (hx : H x = some (.ins C dx fs)) {a : Addr} {xs : List V} (h : SqT K H a xs) : SqT K H' a xs := by
  rcases h with (h | ⟨o, h⟩) | h
  · exact .inl (.inl (k _ _ (fun e => by subst e; rw [hx] at h; cases h) h))
  · exact .inl (.inr ⟨o, k _ _ (fun e => by subst e; rw [hx] at h; cases h) h⟩)
  · exact .inr h
theorem SameX.dq {K : PySem.W.Frag} {x C dx m l : Addr} {fs : List (Str × V)} {H H' : Hp} (k : SameX x H H') (hx : H x = some (.ins C dx fs)) (d : PyData) (v : V) (h : Dq K H m l v d) : Dq K H' m l v d :=
  Dq.gen (fun a xs e n1 n2 => ⟨k _ _ (fun z => by subst z; rw [hx] at e; cases e) e, n1, n2⟩) (fun a xs e => k.seqT hx e) (fun a e n1 n2 => ⟨k _ _ (fun z => by subst z; rw [hx] at e; cases e) e, n1, n2⟩) d v h
theorem SameX.free {x : Addr} {H H' : Hp} (k : SameX x H H') {e : Addr} (hx : H' x ≠ none) (h : H' e = none) : H e = none := by
  cases hh : H e with
  | none => rfl
  | some o =>
    by_cases z : e = x
    · subst z; exact absurd h hx
    · rw [k e o z hh] at h; cases h
theorem SameX.same {x : Addr} {H H' : Hp} (k : SameX x H H') (h : H x = none) : Same H H' := fun b o e => k b o (ne_of_none e h) e
/-- settings that are let by are pairs -/
theorem dueGo_pr : ∀ (ds : List PyData) (p : Nat) (seen : List Str) (many r : Int), dueGo p seen many ds = .inr r → ∃ qs, ds = prD qs ∧ ∀ q ∈ qs, 1 ≤ q.2 ∧ q.2 ≤ 3
  | [], _, _, _, _, _ => ⟨[], rfl, fun q h => nomatch h⟩
  | d :: ds, p, seen, many, r, h => by
    simp only [dueGo] at h
    cases eo : oneD d with
    | none => rw [eo] at h; cases h
    | some zc =>
      obtain ⟨z, c⟩ := zc
      rw [eo] at h
      simp only at h
      by_cases hz : z ∈ seen
      · rw [if_pos hz] at h; cases h
      · rw [if_neg hz] at h
        obtain ⟨qs, e, bq⟩ := dueGo_pr ds _ _ _ _ h
        have key : d = .tuple [.str z, .int c] ∧ 1 ≤ c ∧ c ≤ 3 := by
          unfold oneD at eo
          split at eo
          · rename_i z' c'
            by_cases hh : (isName (.str z') && isWhole (.int c') 1 3) = true
            · rw [if_pos hh] at eo
              cases eo
              refine ⟨rfl, ?_⟩
              have h2 := (Bool.and_eq_true _ _ ▸ hh : _ ∧ _).2
              have h3 := (Bool.and_eq_true _ _ ▸ h2 : _ ∧ _)
              exact ⟨of_decide_eq_true h3.1, of_decide_eq_true h3.2⟩
            · rw [if_neg hh] at eo; cases eo
          · cases eo
        refine ⟨(z, c) :: qs, by rw [key.1, e]; rfl, fun q hq => ?_⟩
        rcases List.mem_cons.mp hq with rfl | hq
        · exact key.2
        · exact bq q hq
theorem needV_pr {d : PyData} (h : needV d = none) : ∃ qs, d = .tuple (prD qs) ∧ 1 ≤ qs.length ∧ qs.length ≤ 3 := by
  cases d with
  | tuple ds =>
    have h' : (if 1 ≤ ds.length ∧ ds.length ≤ 3 then (match dueGo 0 [] 1 ds with | .inl p => some (V.int (p : Nat)) | .inr many => if many ≤ 12 then none else some (.str "many")) else some V.non) = none := h
    by_cases hl : 1 ≤ ds.length ∧ ds.length ≤ 3
    · rw [if_pos hl] at h'
      cases eg : dueGo 0 [] 1 ds with
      | inl p => rw [eg] at h'; cases h'
      | inr many =>
        obtain ⟨qs, e, _⟩ := dueGo_pr ds _ _ _ _ eg
        have : ds.length = qs.length := by rw [e]; exact List.length_map ..
        exact ⟨qs, by rw [e], by omega, by omega⟩
    · rw [if_neg hl] at h'; cases h'
  | _ => cases h
theorem prD_trs {K : PySem.W.Frag} {H : Hp} {m l : Addr} : ∀ (qs : List (Str × Int)) (vs : List V), DqAll K H m l vs (prD qs) → PrTs K H vs qs
  | [], _, h => by cases h; exact .nil
  | q :: qs, _, h => by
    cases h with
    | cons h1 h2 =>
      refine .cons ?_ (prD_trs qs _ h2)
      cases h1 with
      | tup e t =>
        cases t with
        | cons t1 t2 =>
          cases t1
          cases t2 with
          | cons t3 t4 =>
            cases t3
            cases t4
            exact ⟨_, rfl, e⟩
/-- the words, "live" of all where none are given -/
def wordsD (k : Nat) (d : PyData) : PyData := match d with | .none => .tuple (List.replicate k (.str "live")) | d => d
theorem live_dq {K : PySem.W.Frag} {H : Hp} {m l : Addr} : ∀ (k : Nat), DqAll K H m l (List.replicate k (V.str "live")) (List.replicate k (.str "live"))
  | 0 => .nil
  | k + 1 => .cons (.str _) (live_dq k)
theorem live_flat (k : Nat) : (List.replicate k [V.str "live"]).flatten = List.replicate k (V.str "live") := by
  induction k with
  | zero => rfl
  | succ k ih => rw [List.replicate_succ, List.flatten_cons, ih]; rfl
section
variable {P : Program} {w : World} {K : PySem.W.Frag} {mg : Str → Option Value} {base : Heap} {fI fN fS fA fG fNu fAs fPl fMo fNP fNM fNd aE aM C CS CP CM fES fEP fEM : Addr}
structure ReqC (K : PySem.W.Frag) (C : Addr) : Prop where
  cl : Cls K C
  nS : NoAttr K C "settings"
  nP : NoAttr K C "places"
  nM : NoAttr K C "modes"
def reqF (v1 v2 v3 : V) : List (Str × V) := [("settings", v1), ("places", v2), ("modes", v3)]
def spReq (K : PySem.W.Frag) (C CS CP CM : Addr) : Sp := fun vs H Q E => ∃ (m l x dx : Addr) (v1 v2 v3 : V) (d1 d2 d3 : PyData) (B1 b1 B2 b2 : Nat), vs = [.ref x, v1, v2, v3] ∧ H x = some (.ins C dx []) ∧ Dq K H m l v1 d1 ∧ Gd B1 100000 b1 d1 ∧ Dq K H m l v2 d2 ∧ Gd B2 100000 b2 d2 ∧ Dq K H m l v3 d3 ∧
  (∀ u, needV d1 = some u → ∀ e H', H e = none → SameX x H H' → H' e = some (.xd [("place", u)]) → E (.ref CS) (some e) H') ∧
  (needV d1 = none → ∀ qs, d1 = .tuple (prD qs) → (∀ u, placesV qs d2 = some u → ∀ e H', H e = none → SameX x H H' → H' e = some (.xd [("place", u)]) → E (.ref CP) (some e) H') ∧
    (placesV qs d2 = none → (∀ u, modesV qs.length (wordsD qs.length d3) = some u → ∀ e H', H e = none → SameX x H H' → H' e = some (.xd [("place", u)]) → E (.ref CM) (some e) H') ∧
      (modesV qs.length (wordsD qs.length d3) = none → ∀ H' v3', SameX x H H' → H' x = some (.ins C dx (reqF v1 v2 v3')) → Dq K H' m l v3' (wordsD qs.length d3) → Q .non H')))
abbrev NNr : List Str := ["self", "settings", "places", "modes"]
theorem scRi : FnScope NNr ["self", "settings", "places", "modes"] (defScope sReqIni) := ⟨rfl, rfl, rfl, by decide +kernel, rfl, by decide +kernel, by decide +kernel⟩
theorem ok_reqini {f : Addr} {fd fdI fdN fdS fdA fdG fdNu fdAs fdPl fdMo fdNP fdNM fdNd fdES fdEP fdEM : FuncData} {q1 q2 q3 qual : Str} (F : FunD K "__init__" qual (defArgs sReqIni) (defBody sReqIni) (defScope sReqIni) [.non] [] f fd) (T : TxtR mg fI fN fS fA fG fNu fAs fPl fMo fNP fNM fNd aE aM) (W : WrT K aE aM) (RC : ReqC K C)
    (gS : mg "BadSettings" = some (.ref CS)) (TS : ErrC K CS fES) (gP : mg "BadPlaces" = some (.ref CP)) (TP : ErrC K CP fEP) (gM : mg "BadModes" = some (.ref CM)) (TM : ErrC K CM fEM)
    (FES : Fun K "__init__" q1 sIni fES fdES) (bES : Binds K fdES ["self", "place"] []) (FEP : Fun K "__init__" q2 sIniP fEP fdEP) (bEP : Binds K fdEP ["self", "place"] []) (FEM : Fun K "__init__" q3 sIniM fEM fdEM) (bEM : Binds K fdEM ["self", "place"] [])
    (FI : Fun K "is_int" "is_int" sPInt fI fdI) (bI : Binds K fdI ["thing"] []) (FN : Fun K "is_name" "is_name" sPName fN fdN) (bN : Binds K fdN ["thing"] []) (FS : Fun K "is_setting" "is_setting" sPSet fS fdS) (bS : Binds K fdS ["thing"] [])
    (FA : Fun K "names_of" "names_of" sPNames fA fdA) (bA : Binds K fdA ["settings"] []) (FG : Fun K "grid_of" "grid_of" sPGrid fG fdG) (bG : Binds K fdG ["settings"] [])
    (FNd : Fun K "need_settings" "need_settings" sNeed fNd fdNd) (bNd : Binds K fdNd ["thing"] [])
    (FNu : Fun K "is_number" "is_number" sPNum fNu fdNu) (bNu : Binds K fdNu ["many", "thing"] []) (FAs : Fun K "is_ask" "is_ask" sPAsk fAs fdAs) (bAs : Binds K fdAs ["settings", "many", "setting", "nexts"] [])
    (FPl : Fun K "is_place" "is_place" sPPlace fPl fdPl) (bPl : Binds K fdPl ["settings", "many", "thing"] []) (FMo : Fun K "is_mode" "is_mode" sPMode fMo fdMo) (bMo : Binds K fdMo ["thing"] [])
    (FNP : Fun K "need_places" "need_places" sNPlaces fNP fdNP) (bNP : Binds K fdNP ["settings", "places"] []) (FNM : Fun K "need_modes" "need_modes" sNModes fNM fdNM) (bNM : Binds K fdNM ["settings", "modes"] []) :
    FnOk P w K mg base (L2.CX P w) 6 f fd ["self", "settings", "places", "modes"] (spReq K C CS CP CM) := by
  have GNd : FnOk P w K mg base (L2.CX P w) 3 fNd fdNd ["thing"] (spNeed K CS) := ok_need FNd T.toTxtP gS TS FI bI FN bN FS bS FA bA FG bG FES bES
  have GNP : FnOk P w K mg base (L2.CX P w) 5 fNP fdNP ["settings", "places"] (spNPl K CP) := ok_nplaces FNP T W gP TP FI bI FN bN FNu bNu FAs bAs FPl bPl FEP bEP
  have GNM : FnOk P w K mg base (L2.CX P w) 3 fNM fdNM ["settings", "modes"] (spNMo K CM) := ok_nmodes FNM T W gM TM FMo bMo FEM bEM
  refine FunD.ok F scRi (fun vs H Q E h => ?_) (fun cdv A outer s H vs Q E hr h => ?_)
  · obtain ⟨m, l, x, dx, v1, v2, v3, d1, d2, d3, B1, b1, B2, b2, rfl, _⟩ := h
    rfl
  obtain ⟨m, l, x, dx, v1, v2, v3, d1, d2, d3, B1, b1, B2, b2, rfl, hx, hd1, gd1, hd2, gd2, hd3, qe, qr⟩ := h
  have hr3 : Room 3 _ := hr.mono (by decide)
  refine ⟨_, pss_cons (ps_fld (pv 0) (pe_call GNd hr3 rfl T.gNd FNd.kp bNd .nil (passes_call (takes_of rfl rfl rfl rfl) fun _ _ _ _ h => h) (pa_cons (pv 1) pa_nil)) rfl)
    (pss_cons (ps_fld (pv 0) (pe_call GNP hr rfl T.gNP FNP.kp bNP .nil (passes_call (takes_of rfl rfl rfl rfl) fun _ _ _ _ h => h) (pa_cons (pv 1) (pa_cons (pv 2) pa_nil))) rfl)
    (pss_cons (ps_if (pt_cmpR op_isN (pv 3) pe_non (nomark _)) (pss_one (ps_set (i := 3) scRi.nd rfl (by first | exact Or.inl rfl | exact Or.inr rfl) (pe_op op_rep1 (pe_tup (pa_cons pe_str pa_nil)) (pe_callB call_len (by rfl) T.len PySem.boot_len (pa_cons (pv 1) pa_nil))))) pss_nil)
    (pss_one (ps_fld (pv 0) (pe_call GNM hr3 rfl T.gNM FNM.kp bNM .nil (passes_call (takes_of rfl rfl rfl rfl) fun _ _ _ _ h => h) (pa_cons (pv 1) (pa_cons (pv 3) pa_nil))) rfl)))), ?_⟩
  refine ⟨_, rfl, m, l, v1, d1, B1, b1, rfl, hd1, gd1, fun hn H1 s1 => ?_, fun u hu e H' h1 h2 h3 => qe u hu e H' h1 (fun b o _ e => h2 b o e) h3⟩
  obtain ⟨qs, rfl, l1, l3⟩ := needV_pr hn
  obtain ⟨qp, q⟩ := qr hn qs rfl
  have x1 : H1 x = some (.ins C dx []) := s1 _ _ hx
  refine ⟨_, rfl, x, C, dx, [], rfl, x1, RC.cl, RC.nS, (by show 0 < 1000; decide), ?_⟩
  have k1 : SameX x H (upd H1 x (.ins C dx (putF "settings" v1 []))) := SameX.thenU (fun b o _ e => s1 b o e)
  obtain ⟨a, xs, rfl, hs, hxs⟩ : ∃ a xs, v1 = .ref a ∧ SqT K H a xs ∧ DqAll K H m l xs (prD qs) := by
    cases hd1 with
    | tup e t => exact ⟨_, _, rfl, e, t⟩
  have lx : xs.length = qs.length := by have := hxs.len; rw [this]; exact List.length_map ..
  generalize eH1 : upd H1 x (.ins C dx (putF "settings" (V.ref a) [])) = G1 at k1 ⊢
  have xg : G1 x = some (.ins C dx (putF "settings" (V.ref a) [])) := by rw [← eH1]; exact upd_same
  have hxs1 : DqAll K G1 m l xs (prD qs) := by
    have := k1.dq hx (.tuple (prD qs)) (.ref a) (.tup hs hxs)
    exact DqAll.gen (fun a xs e n1 n2 => ⟨k1 _ _ (fun z => by subst z; rw [hx] at e; cases e) e, n1, n2⟩) (fun a xs e => k1.seqT hx e) (fun a e n1 n2 => ⟨k1 _ _ (fun z => by subst z; rw [hx] at e; cases e) e, n1, n2⟩) _ _ hxs
  have free1 : ∀ {G : Hp}, SameX x H G → G x ≠ none → ∀ {e}, G e = none → H e = none := fun k n _ h => k.free n h
  refine ⟨_, rfl, _, rfl, m, l, a, xs, qs, v2, d2, B2, b2, rfl, k1.seqT hx hs, prD_trs qs xs hxs1, k1.dq hx d2 v2 hd2, gd2, fun hp H2 s2 => ?_, fun u hu e H' h1 h2 h3 => qp u hu e H' (free1 k1 (by rw [xg]; exact fun z => nomatch z) h1) (k1.thenS h2) h3⟩
  obtain ⟨qm, q⟩ := q hp
  have x2 : H2 x = _ := s2 _ _ xg
  refine ⟨_, rfl, x, C, dx, _, rfl, x2, RC.cl, RC.nP, (by show 1 < 1000; decide), ?_⟩
  have k2 : SameX x H (upd H2 x (.ins C dx (putF "places" v2 (putF "settings" (V.ref a) [])))) := SameX.thenU (k1.thenS s2)
  generalize eH2 : upd H2 x (.ins C dx (putF "places" v2 (putF "settings" (V.ref a) []))) = G2 at k2 ⊢
  have xg2 : G2 x = some (.ins C dx (putF "places" v2 (putF "settings" (V.ref a) []))) := by rw [← eH2]; exact upd_same
  have fin : ∀ (v3' : V) (G3 : Hp), Same G2 G3 → Dq K G3 m l v3' (wordsD qs.length d3) → ∃ (m l a' : Addr) (xs : List V) (v : V) (d : PyData), [V.ref a, v3'] = [.ref a', v] ∧ SqT K G3 a' xs ∧ Dq K G3 m l v d ∧
      (modesV xs.length d = none → ∀ H', Same G3 H' → ∃ z, [some (V.ref x), some (V.ref a), some v2, some v3'][0]? = some (some z) ∧ ∃ p C dx fs, z = V.ref p ∧ H' p = some (.ins C dx fs) ∧ Cls K C ∧ NoAttr K C "modes" ∧ fs.length < 1000 ∧ Q .non (upd H' p (.ins C dx (putF "modes" v fs)))) ∧ ∀ u, modesV xs.length d = some u → ∀ dx H', G3 dx = none → Same G3 H' → H' dx = some (.xd [("place", u)]) → E (.ref CM) (some dx) H' := by
    intro v3' G3 s3 h3
    have k3 := k2.thenS s3
    have x3 : G3 x = _ := s3 _ _ xg2
    refine ⟨m, l, a, xs, v3', wordsD qs.length d3, rfl, k3.seqT hx hs, h3, fun hm H' s' => ?_, fun u hu e H' h1 h2 h3 => ?_⟩
    · rw [lx] at hm
      have x4 := s' _ _ x3
      refine ⟨_, rfl, x, C, dx, _, rfl, x4, RC.cl, RC.nM, (by show 2 < 1000; decide), q hm _ v3' ((k3.thenS s').thenU) upd_same ?_⟩
      exact Dq.gen (fun a xs e n1 n2 => ⟨by rw [upd_ne (fun z => by subst z; rw [x4] at e; cases e)]; exact e, n1, n2⟩) (fun a xs e => SameX.seqT (fun b o n e => by rw [upd_ne n]; exact e) x4 e) (fun a e n1 n2 => ⟨by rw [upd_ne (fun z => by subst z; rw [x4] at e; cases e)]; exact e, n1, n2⟩) _ _ (Dq.same s' _ _ h3)
    · rw [lx] at hu
      exact qm u hu e H' (free1 k3 (by rw [x3]; exact fun z => nomatch z) h1) (k3.thenS h2) h3
  refine ⟨_, rfl, rfl, ?_⟩
  cases d3 with
  | none =>
    cases hd3
    refine ⟨_, rfl, ifT rfl ?_⟩
    refine ⟨(by decide), fun p hp' => ?_⟩
    refine ⟨_, rfl, .ref a, xs.length, rfl, .inr ⟨xs, SameX.seqT (SameX.thenS k2 (Same.upd hp')) hx hs, rfl⟩, p, (xs.length : Int), [V.str "live"], rfl, rfl, .inl (.inl upd_same), (fun z => nomatch z), by omega, by omega, (by show 1 ≤ 1000; decide), fun e1 => ?_, fun e2 p2 hp2 => ?_⟩
    · refine ⟨_, rfl, _, rfl, fin _ _ (Same.upd hp') ?_⟩
      have : qs.length = 1 := by omega
      simp only [wordsD, this]
      exact .tup (.inl (.inl upd_same)) (.cons (.str _) .nil)
    · refine ⟨_, rfl, _, rfl, fin _ _ ((Same.upd hp').trans (Same.upd hp2)) ?_⟩
      have e3 : (xs.length : Int).toNat = qs.length := by omega
      rw [e3, live_flat]
      exact .tup (.inl (.inl upd_same)) (live_dq _)
  | _ =>
    cases hd3 <;> refine ⟨_, rfl, ifF rfl ⟨_, rfl, _, rfl, ?_⟩⟩ <;> refine fin _ _ (Same.refl _) (k2.dq hx _ _ ?_) <;> first | exact .bl _ | exact .int _ | exact .str _ | exact .lst (by assumption) (by assumption) (by assumption) (by assumption) | exact .tup (by assumption) (by assumption) | exact .dct (by assumption) (by assumption) (by assumption)
end
end Ms
namespace Ms
open PySem PySem.Spec PyProof.Rows L2 RZ
/-! ### a dict comprehension over any walk -/
theorem dc_it {J : It} {n : Nat} {G : Hp → Prop} {Y : Nat → Hp → V → Hp → Prop} (w : Walk J n G Y) {g : TG} {tt : TT} {tk tv : TE} {vs : List Nat} {σ : L2.St} {H1 : Hp} {D : Addr} {Qd : Hp → Prop} (Pv : Nat → Hp → Prop) (h0 : Pv 0 (upd H1 D (.dK []))) (hG : ∀ i H, i ≤ n → Pv i H → G H)
    (hs : ∀ i x H H', i < n → Pv i H → Y i H x H' → g x (wipe σ vs) H' fun σ2 H2 => wipe σ2 vs = wipe σ vs ∧ tt σ2 H2 fun b H3 =>
      if b = true then tk σ2 H3 fun y H4 => tv σ2 H4 fun z H5 => ∃ kvs k, y = kV k ∧ H5 D = some (.dK kvs) ∧ kvs.length < sizeLine ∧ Pv (i + 1) (upd H5 D (.dK (putK kvs k z))) else Pv (i + 1) H3) (hd : ∀ H, Pv n H → Qd H) :
    ∃ W : Nat → Nat → Hp → Prop, (∃ m, W 0 m (upd H1 D (.dK []))) ∧ ∀ i m H, W i m H →
      (J.stop i H ∧ Qd H) ∨ (J.go i H ∧ ∃ Nx : Hp → Prop, (∀ H', Nx H' → ∃ m', m' < m ∧ W (i + 1) m' H') ∧ ∀ x H', J.yld i H x H' → g x (wipe σ vs) H' fun σ2 H2 => wipe σ2 vs = wipe σ vs ∧ tt σ2 H2 fun b H3 =>
        if b = true then tk σ2 H3 fun y H4 => tv σ2 H4 fun z H5 => ∃ kvs k, y = kV k ∧ H5 D = some (.dK kvs) ∧ kvs.length < sizeLine ∧ Nx (upd H5 D (.dK (putK kvs k z))) else Nx H3) := by
  refine ⟨fun i m H => m = n - i ∧ i ≤ n ∧ Pv i H, ⟨n, by simp, Nat.zero_le _, h0⟩, ?_⟩
  rintro i m H ⟨rfl, hi, p⟩
  have q := hG i H hi p
  by_cases hlt : i < n
  · refine .inr ⟨w.goes i H hlt q, Pv (i + 1), fun H' p' => ⟨n - (i + 1), by omega, rfl, hlt, p'⟩, fun x H' y => hs i x H H' hlt p (w.yields i H x H' hlt q y)⟩
  · have e : i = n := by omega
    subst e
    exact .inl ⟨w.stops H q, hd H p⟩
/-! ### the order of the names -/
def ordF : Nat → List (Str × Int) → List (Key × V)
  | _, [] => []
  | n, q :: qs => (.inr q.1, .int (n : Nat)) :: ordF (n + 1) qs
def ordK (qs : List (Str × Int)) : List (Key × V) := ordF 0 qs
theorem ordF_len : ∀ (n : Nat) (qs : List (Str × Int)), (ordF n qs).length = qs.length
  | _, [] => rfl
  | n, q :: qs => by show (ordF (n + 1) qs).length + 1 = _; rw [ordF_len]; rfl
theorem ordF_snoc : ∀ (n : Nat) (qs : List (Str × Int)) (q : Str × Int), ordF n (qs ++ [q]) = ordF n qs ++ [(.inr q.1, .int ((n + qs.length : Nat) : Int))]
  | n, [], q => rfl
  | n, p :: qs, q => by
    show (_ :: ordF (n + 1) (qs ++ [q])) = _ :: (ordF (n + 1) qs ++ _)
    rw [ordF_snoc (n + 1) qs q]
    have : n + 1 + qs.length = n + (p :: qs).length := by simp; omega
    rw [this]
theorem ordF_none {z : Str} : ∀ (n : Nat) (qs : List (Str × Int)), z ∉ qs.map (·.1) → valV (ordF n qs) (.inr z) = none
  | _, [], _ => rfl
  | n, q :: qs, h => by
    have h' : ¬ z = q.1 ∧ z ∉ qs.map (·.1) := by simpa using h
    show valV (((.inr q.1 : Key), V.int (n : Nat)) :: ordF (n + 1) qs) (.inr z) = none
    rw [valV_neg (fun e => h'.1 (by have e' : (Sum.inr q.1 : Key) = Sum.inr z := e; injection e' with e'; exact e'.symm))]
    exact ordF_none (n + 1) qs h'.2
theorem ordF_at {z : Str} : ∀ (n : Nat) (qs : List (Str × Int)), z ∈ qs.map (·.1) → valV (ordF n qs) (.inr z) = some (.int ((n + idxN z qs : Nat) : Int))
  | _, [], h => nomatch h
  | n, q :: qs, h => by
    show valV (((.inr q.1 : Key), V.int (n : Nat)) :: ordF (n + 1) qs) (.inr z) = _
    by_cases e : q.1 = z
    · rw [valV_pos (show (Sum.inr q.1 : Key) = Sum.inr z by rw [e])]
      unfold idxN
      rw [if_pos e]; rfl
    · rw [valV_neg (fun e' => e (by have e2 : (Sum.inr q.1 : Key) = Sum.inr z := e'; injection e2))]
      have h' : z ∈ qs.map (·.1) := by
        rcases List.mem_cons.mp h with h | h
        · exact absurd h.symm e
        · exact h
      rw [ordF_at (n + 1) qs h']
      conv => rhs; unfold idxN
      rw [if_neg e]
      have : n + 1 + idxN z qs = n + (idxN z qs + 1) := by omega
      rw [this]
section
variable {P : Program} {w : World} {K : PySem.W.Frag} {mg : Str → Option Value} {base : Heap} {fI fN fS fA fG aE : Addr}
abbrev NOr : List Str := ["settings", "at", "name", "most"]
theorem scOr : FnScope NOr ["settings"] (defScope sPOrder) := ⟨rfl, rfl, rfl, by decide +kernel, rfl, by decide +kernel, by decide +kernel⟩
def spPOrder (K : PySem.W.Frag) : Sp := fun vs H Q _ => ∃ (a : Addr) (xs : List V) (qs : List (Str × Int)), vs = [.ref a] ∧ SqT K H a xs ∧ PrTs K H xs qs ∧ qs.length ≤ 900 ∧ (qs.map (·.1)).Nodup ∧
  ∀ D, H D = none → ∀ H', Same H H' → H' D = some (.dK (ordK qs)) → Q (.ref D) H'
theorem ok_porder {f : Addr} {fd : FuncData} (F : Fun K "order_of" "order_of" sPOrder f fd) (T : TxtP mg fI fN fS fA fG) : FnOk P w K mg base CX0 1 f fd ["settings"] (spPOrder K) := by
  refine F.ok scOr (fun vs H Q E h => ?_) (fun cdv A outer s H vs Q E hr h => ?_)
  · obtain ⟨a, xs, qs, rfl, _⟩ := h
    rfl
  obtain ⟨a, xs, qs, rfl, hs, hp, hl, hn, q⟩ := h
  have lx := hp.len
  refine ⟨_, pss_one (ps_ret (pe_dc (own := [("at", 1), ("name", 2), ("most", 3)]) (g := gTup K 2 (gCons (gName 1) (gCons (gTup K 2 (gCons (gName 2) (gCons (gName 3) gNil))) gNil))) (by rfl) scOr.nd (pi_et (by rfl) T.enumerate (pa_cons (pv 0) pa_nil)) (blkOk_by (own := [("at", 1), ("name", 2), ("most", 3)]) (N := NOr) (sc := defScope sPOrder) (by decide +kernel))
      (fun _ _ _ _ _ => pg_tup rfl (pgs_cons (pg_name (i := 1) scOr.nd rfl (Or.inl rfl)) (pgs_cons (pg_tup rfl (pgs_cons (pg_name (i := 2) scOr.nd rfl (Or.inl rfl)) (pgs_cons (pg_name (i := 3) scOr.nd rfl (Or.inl rfl)) pgs_nil))) pgs_nil))) (fun _ _ _ _ _ => pts_nil)
      (fun _ _ _ _ _ => pv 2) (fun _ _ _ _ _ => pv 1))), ?_⟩
  refine ⟨_, rfl, a, xs, rfl, hs, fun D hD => ?_⟩
  refine dc_it (walk_et (xs := xs)) (fun i H3 => Same H H3 ∧ H3 D = some (.dK (ordK (qs.take i)))) ⟨Same.upd hD, by rw [upd_same]; rfl⟩ (fun i H3 _ ⟨s3, _⟩ => Same.seqT s3 hs) ?_ ?_
  · rintro i x H3 H4 hi ⟨s3, g3⟩ ⟨TT, x1, x2, rfl, hT, rfl, e1, e2⟩
    have ex1 : x1 = .int (i : Nat) := (Option.some.inj e1).symm
    subst ex1
    obtain ⟨qq, hqq, b, rfl, hb⟩ := hp.get e2
    have sT : Same H3 (upd H3 TT (.tup [.int (i : Nat), .ref b])) := Same.upd hT
    have s4 := s3.trans sT
    have gD := sT _ _ g3
    have ti : qs.take (i + 1) = qs.take i ++ [qq] := by rw [List.take_succ, hqq]; rfl
    have li : (qs.take i).length = i := by rw [List.length_take]; omega
    refine ⟨TT, _, rfl, .inl (.inl upd_same), rfl, _, _, rfl, _, _, rfl, b, _, rfl, Same.seqT s4 hb, rfl, _, _, rfl, _, _, rfl, rfl, rfl, rfl, tyes ?_⟩
    refine ⟨_, rfl, _, rfl, _, .inr qq.1, rfl, gD, ?_, ?_, ?_⟩
    · show (ordF 0 (qs.take i)).length < sizeLine
      rw [ordF_len]
      exact small1000 (by omega)
    · intro c o hc
      rw [upd_ne (ne_of_none hc hD)]; exact s4 c o hc
    · rw [upd_same, ti]
      have hno : qq.1 ∉ (qs.take i).map (·.1) := by
        intro hm
        have e3 : (qs.map (·.1)).take i = (qs.take i).map (·.1) := (List.map_take ..).symm
        rw [← e3] at hm
        obtain ⟨j, hj⟩ := List.mem_iff_getElem?.mp hm
        rw [List.getElem?_take] at hj
        split at hj
        · rename_i hji
          obtain ⟨b1, c1⟩ := List.getElem?_eq_some_iff.mp hj
          have a2 : (qs.map (·.1))[i]? = some qq.1 := by rw [List.getElem?_map, hqq]; rfl
          obtain ⟨b2, c2⟩ := List.getElem?_eq_some_iff.mp a2
          have : j = i := (List.getElem_inj hn).mp (c1.trans c2.symm)
          omega
        · cases hj
      show some (HO.dK (putK (ordF 0 (qs.take i)) (.inr qq.1) (.int (i : Nat)))) = some (HO.dK (ordF 0 (qs.take i ++ [qq])))
      rw [putK_new _ (ordF_none 0 _ hno), ordF_snoc, Nat.zero_add, li]
  · rintro H3 ⟨s3, g3⟩
    rw [List.take_of_length_le (by omega)] at g3
    exact q D hD _ s3 g3
/-! ### plain_row -/
abbrev NPr : List Str := ["places", "order", "standing", "row", "number", "step", "place"]
theorem scPr : FnScope NPr ["places", "order", "standing"] (defScope sPPRow) := ⟨rfl, rfl, rfl, by decide +kernel, rfl, by decide +kernel, by decide +kernel⟩
def spPPRow (K : PySem.W.Frag) : Sp := fun vs H Q _ => ∃ (m l D pP pT : Addr) (ps : List V) (qs : List (Str × Int)) (ds : List PyData) (st : List Int), vs = [.ref pP, .ref D, .ref pT] ∧ (qs.map (·.1)).Nodup ∧
  SqT K H pP ps ∧ DqAll K H m l ps ds ∧ (∀ d ∈ ds, plD qs (ds.length : Int) d) ∧ 1 ≤ ds.length ∧ ds.length ≤ 16 ∧ H D = some (.dK (ordK qs)) ∧ SqT K H pT (st.map V.int) ∧ stOk qs st ∧
  (plainR qs ds st = none → ∀ H', Same H H' → Q .non H') ∧ (∀ row, plainR qs ds st = some row → ∀ p H', Same H H' → H' p = some (.tup (row.map V.str)) → Q (.ref p) H')
theorem ok_prow {f : Addr} {fd : FuncData} (F : Fun K "plain_row" "plain_row" sPPRow f fd) (T : TxtP mg fI fN fS fA fG) (hE : mg "END" = some (.ref aE)) (WE : ∀ H, SqT K H aE [.str "end"]) : FnOk P w K mg base CX0 1 f fd ["places", "order", "standing"] (spPPRow K) := by
  refine F.ok scPr (fun vs H Q E h => ?_) (fun cdv A outer s H vs Q E hr h => ?_)
  · obtain ⟨m, l, D, pP, pT, ps, qs, ds, st, rfl, _⟩ := h
    rfl
  obtain ⟨m, l, D, pP, pT, ps, qs, ds, st, rfl, hn, hP, hps, hpl, d1, d16, hD, hT, so, qn, qr⟩ := h
  have lps := hps.len
  refine ⟨_, pss_cons (ps_set (i := 3) scPr.nd rfl (Or.inl rfl) (pe_lst pa_nil))
    (pss_cons (ps_set (i := 4) scPr.nd rfl (Or.inl rfl) pe_int)
    (pss_cons (ps_for PassesOwn.never rfl (pi_range1 (by rfl) T.range (pa_cons (pe_callB call_len (by rfl) T.len PySem.boot_len (pa_cons (pv 0) pa_nil)) pa_nil)) (pg_name (i := 5) scPr.nd rfl (Or.inl rfl))
      (pss_cons (ps_set (i := 6) scPr.nd rfl (Or.inl rfl) (pe_ix (show IxR _ (rIxT K) from ix_tup) (pv 0) (pv 4) (fun _ _ => rfl)))
      (pss_cons (ps_if (pt_cmpR (op_eqE hr.units) (pv 6) (pe_glob (v := .ref aE) rfl hE rfl) (nomark _)) (pss_one (ps_ret (pe_callTy call_tuple_of (by rfl) T.tuple (by decide +kernel) (pa_cons (pv 3) pa_nil)))) pss_nil)
      (pss_one (ps_if (pt_cmpR op_eq (pe_ix (show IxR _ (rIxT K) from ix_tup) (pv 6) pe_int (fun _ _ => rfl)) pe_str (nomark _))
        (pss_cons (ps_expr (pe_bm PySem.F.plainAttrs_list PySem.F.slot_list_append PySem.F.type_list_append mt_append (pv 3) (pa_cons (pe_ix (show IxR _ (rIxT K) from ix_tup) (pv 6) pe_int (fun _ _ => rfl)) pa_nil)))
          (pss_one (ps_set (i := 4) scPr.nd rfl (Or.inl rfl) (pe_ix (show IxR _ (rIxT K) from ix_tup) (pv 6) pe_int (fun _ _ => rfl)))))
        (pss_one (ps_set (i := 4) scPr.nd rfl (Or.inl rfl) (pe_ix (show IxR _ (rIxT K) from ix_tup) (pe_ix (show IxR _ (rIxT K) from ix_tup) (pv 6) pe_int (fun _ _ => rfl))
          (pe_ix (show IxR _ (rIxT K) from ix_tup) (pv 2) (pe_dget (Nat.lt_of_le_of_lt (Nat.add_le_add_left (by decide : 1 ≤ 64) _) hr.units) (pv 1) (pe_ix (show IxR _ (rIxT K) from ix_tup) (pv 6) pe_int (fun _ _ => rfl)) (fun _ _ => rfl)) (fun _ _ => rfl)) (fun _ _ => rfl)))))))))
    (pss_one (ps_ret pe_non)))), ?_⟩
  refine ⟨(by show 0 ≤ sizeLine; decide), fun R hR => ?_⟩
  have hRH : H R = none := hR
  have s2 : Same H (upd H R (.lst [])) := Same.upd hR
  refine ⟨_, rfl, .ref pP, ps.length, rfl, .inr ⟨ps, Same.seqT s2 hP, rfl⟩, _, rfl, by omega, by omega, ?_⟩
  have cl := pl_next so hn hpl
  refine for_range (lo := 0) (n := ((ps.length : Nat) : Int).toNat) (fun i σ H7 => ∃ (v4 v5 : Option V) (acc : List Str) (h : Nat), σ = [some (.ref pP), some (.ref D), some (.ref pT), some (.ref R), some (.int (h : Int)), v4, v5] ∧ Same H H7 ∧ H7 R = some (.lst (acc.map V.str)) ∧ acc.length ≤ i ∧ h < ds.length ∧ plainR qs ds st = walkD qs st ds (ds.length - i) h acc)
    ⟨none, none, [], 0, rfl, s2, upd_same, Nat.le_refl _, by omega, rfl⟩ ?_ ?_
  · rintro i σ H7 hi ⟨v4, v5, acc, h, rfl, s7, g7, al, hh, ew⟩
    have hi' : i < ds.length := by omega
    have hps7 : DqAll K H7 m l ps ds := DqAll.same s7 _ _ hps
    obtain ⟨y, hy⟩ : ∃ y, ps[h]? = some y := ⟨_, List.getElem?_eq_getElem (by omega)⟩
    obtain ⟨e, he, dqe⟩ := hps7.get hy
    have hpe := hpl e (List.mem_of_getElem? he)
    have eg : ds.getD h .none = e := by rw [List.getD_eq_getElem?_getD, he]; rfl
    have pa := pl_at dqe hpe
    obtain ⟨k, ek⟩ : ∃ k, ds.length - i = k + 1 := ⟨ds.length - i - 1, by omega⟩
    have ek1 : ds.length - (i + 1) = k := by omega
    rw [ek] at ew
    refine ⟨_, rfl, _, rfl, pP, ps, (h : Int), y, rfl, rfl, Same.seqT s7 hP, atI_nat hy, ?_⟩
    cases pa with
    | @fin b hb =>
      refine ⟨_, rfl, b, aE, m, l, _, [.str "end"], "end", rfl, rfl, hb, .cons (.str _) .nil, WE _, _, rfl, ifT rfl ?_⟩
      refine ⟨_, rfl, R, _, rfl, .inl ⟨SqL.of g7, fun p hp => ?_⟩⟩
      rw [walk_end (by rw [eg]; rfl)] at ew
      exact qr acc ew p _ (s7.trans (Same.upd hp)) upd_same
    | @deed b z r hb hz r0 r1 =>
      obtain ⟨r', rfl⟩ : ∃ r' : Nat, r = (r' : Int) := ⟨r.toNat, by omega⟩
      have g : goD qs st (ds.getD h .none) = some (some z, (r' : Int)) := by rw [eg]; rfl
      rw [walk_go g] at ew
      have rn := cl h _ _ hh g
      refine ⟨_, rfl, b, aE, m, l, _, [.str "do", .str z, .int (r' : Int)], "end", rfl, rfl, hb, .cons (.str _) (.cons (.str _) (.cons (.int _) .nil)), WE _, _, rfl, ifF rfl ?_⟩
      refine ⟨_, rfl, b, _, 0, .str "do", rfl, rfl, hb, rfl, rfl, _, rfl, ifT (by decide) ?_⟩
      refine ⟨_, rfl, .inl ⟨rfl, _, SqL.of g7⟩, _, rfl, b, _, 1, .str z, rfl, rfl, hb, rfl, R, _, _, rfl, rfl, g7, small1000 (by rw [List.length_map]; omega), ?_⟩
      have s8 : Same H (upd H7 R (.lst (acc.map V.str ++ [.str z]))) := fun c o hc => by rw [upd_ne (ne_of_none hc hRH)]; exact s7 c o hc
      have hb8 : SqT K (upd H7 R (.lst (acc.map V.str ++ [.str z]))) b [.str "do", .str z, .int (r' : Int)] := by
        rcases hb with (hb | ⟨o', hb⟩) | hb
        · exact .inl (.inl (by rw [upd_ne (ne_of hb g7 (by intro z; cases z))]; exact hb))
        · exact .inl (.inr ⟨o', by rw [upd_ne (ne_of hb g7 (by intro z; cases z))]; exact hb⟩)
        · exact .inr hb
      refine ⟨_, rfl, b, _, 2, .int (r' : Int), rfl, rfl, hb8, rfl, _, _, acc ++ [z], r', rfl, s8, ?_, by simp; omega, rn, ?_⟩
      · rw [List.map_append]; exact upd_same
      · rw [ek1]; exact ew
    | @ask b c qq ns hq hb hc hl2 hx2 =>
      obtain ⟨i2, v2, r, h3, h4, h5, w0, w1, h6, h7, h8⟩ := go_ask (w := "ask") so hn hq hl2
      have g : goD qs st (ds.getD h .none) = some (none, r) := by rw [eg]; exact h8
      rw [walk_go g] at ew
      have rn := cl h _ _ hh g
      have r0 := (hx2 r h7).1
      obtain ⟨r', rfl⟩ : ∃ r' : Nat, r = (r' : Int) := ⟨r.toNat, by omega⟩
      have ev : v2 = ((v2.toNat : Nat) : Int) := by omega
      refine ⟨_, rfl, b, aE, m, l, _, [.str "ask", .str qq.1, .tuple (ns.map .int)], "end", rfl, rfl, hb, .cons (.str _) (.cons (.str _) (.cons (.tup hc (ints_dq ns)) .nil)), WE _, _, rfl, ifF rfl ?_⟩
      refine ⟨_, rfl, b, _, 0, .str "ask", rfl, rfl, hb, rfl, rfl, _, rfl, ifF (by decide) ?_⟩
      have gd : DGet H7 D (.str qq.1) (some (.int (i2 : Nat))) := by
        have e1 := ordF_at (z := qq.1) 0 qs (List.mem_map_of_mem hq)
        rw [Nat.zero_add, h4] at e1
        rw [← e1]
        exact DGet.k (k := .inr qq.1) (s7 _ _ hD)
      refine ⟨_, rfl, b, _, 2, .ref c, rfl, rfl, hb, rfl, _, rfl, _, rfl, _, rfl, b, _, 1, .str qq.1, rfl, rfl, hb, rfl, D, .int (i2 : Nat), rfl, gd, ?_⟩
      refine ⟨pT, _, (i2 : Int), .int v2, rfl, rfl, Same.seqT s7 hT, atI_nat (by rw [List.getElem?_map, h5]; rfl), ?_⟩
      refine ⟨c, _, v2, .int (r' : Int), rfl, rfl, hc, ?_, ?_⟩
      · rw [ev]
        exact atI_nat (by rw [List.getElem?_map, h6]; rfl)
      refine ⟨_, _, acc, r', rfl, s7, g7, by omega, rn, ?_⟩
      rw [ek1, ew]
      simp
  · rintro σ H7 ⟨v4, v5, acc, h, rfl, s7, g7, al, hh, ew⟩
    have ez : ds.length - ((ps.length : Nat) : Int).toNat = 0 := by omega
    rw [ez] at ew
    exact qn ew H7 s7
end
end Ms
namespace Ms
open PySem PySem.Spec PyProof.Rows L2 RZ
/-! ### Request.plain -/
theorem stand_st {qs : List (Str × Int)} {d : PyData} (h : standD qs d = true) : ∃ st : List Int, d = .tuple (st.map .int) ∧ stOk qs st := by
  cases d with
  | tuple ds =>
    have h' : (decide (ds.length = qs.length) && (ds.zip qs).all fun p => isWhole p.1 0 p.2.2) = true := h
    rw [Bool.and_eq_true] at h'
    obtain ⟨h1, h2⟩ := h'
    have h1 := of_decide_eq_true h1
    rw [List.all_eq_true] at h2
    have key : ∀ (ds : List PyData) (qs : List (Str × Int)), ds.length = qs.length → (∀ p ∈ ds.zip qs, isWhole p.1 0 p.2.2 = true) → ∃ st : List Int, ds = st.map .int ∧ stOk qs st := by
      intro ds
      induction ds with
      | nil =>
        intro qs hl _
        refine ⟨[], rfl, by simpa using hl, fun i q v h1 h2 => by simp at h2⟩
      | cons d ds ih =>
        intro qs hl hp
        cases qs with
        | nil => simp at hl
        | cons q qs =>
          have hd : isWhole d 0 q.2 = true := hp (d, q) (by simp)
          obtain ⟨st, e, so⟩ := ih qs (by simpa using hl) fun p hp' => hp p (by rw [List.zip_cons_cons]; exact List.mem_cons_of_mem _ hp')
          cases d with
          | int j =>
            have hj : (decide (0 ≤ j) && decide (j ≤ q.2)) = true := hd
            rw [Bool.and_eq_true, decide_eq_true_eq, decide_eq_true_eq] at hj
            refine ⟨j :: st, by rw [e]; rfl, by simp [so.1], fun i q' v h1 h2 => ?_⟩
            cases i with
            | zero =>
              cases h1
              cases h2
              exact hj
            | succ i => exact so.2 i q' v (by simpa using h1) (by simpa using h2)
          | _ => cases hd
    obtain ⟨st, e, so⟩ := key ds qs h1 h2
    exact ⟨st, by rw [e], so⟩
  | _ => cases h
theorem st_stand {qs : List (Str × Int)} {st : List Int} (h : stOk qs st) : standD qs (.tuple (st.map .int)) = true := by
  show (decide ((st.map PyData.int).length = qs.length) && ((st.map PyData.int).zip qs).all fun p => isWhole p.1 0 p.2.2) = true
  rw [List.length_map, decide_eq_true h.1, Bool.true_and, List.all_eq_true]
  intro p hp
  obtain ⟨i, hi⟩ := List.mem_iff_getElem?.mp hp
  rw [List.getElem?_zip_eq_some, List.getElem?_map] at hi
  obtain ⟨h1, h2⟩ := hi
  cases e : st[i]? with
  | none => rw [e] at h1; cases h1
  | some v =>
    rw [e] at h1
    have e1 : p.1 = .int v := (Option.some.inj h1).symm
    obtain ⟨a, b⟩ := h.2 i p.2 v h2 e
    rw [e1]
    show (decide (0 ≤ v) && decide (v ≤ p.2.2)) = true
    rw [decide_eq_true a, decide_eq_true b]; rfl
section
variable {P : Program} {w : World} {K : PySem.W.Frag} {mg : Str → Option Value} {base : Heap} {fI fN fS fA fG fSt fNs fPr fOr C CS fE aE : Addr}
abbrev NPp : List Str := ["self", "standing"]
theorem scPp : FnScope NPp ["self", "standing"] (defScope sReqPlain) := ⟨rfl, rfl, rfl, by decide +kernel, rfl, by decide +kernel, by decide +kernel⟩
def spPPlain (K : PySem.W.Frag) (C CS : Addr) : Sp := fun vs H Q E => ∃ (m l x dx pS pP : Addr) (xs ps : List V) (qs : List (Str × Int)) (ds : List PyData) (vM v : V) (d : PyData), vs = [.ref x, v] ∧ H x = some (.ins C dx (reqF (.ref pS) (.ref pP) vM)) ∧ SqT K H pS xs ∧ PrTs K H xs qs ∧ qs.length ≤ 900 ∧ (qs.map (·.1)).Nodup ∧
  SqT K H pP ps ∧ DqAll K H m l ps ds ∧ (∀ d ∈ ds, plD qs (ds.length : Int) d) ∧ 1 ≤ ds.length ∧ ds.length ≤ 16 ∧ Dq K H m l v d ∧
  (∀ st : List Int, d = .tuple (st.map .int) → stOk qs st → (plainR qs ds st = none → ∀ H', Same H H' → Q .non H') ∧ ∀ row, plainR qs ds st = some row → ∀ p H', Same H H' → H' p = some (.tup (row.map V.str)) → Q (.ref p) H') ∧
  (standD qs d = false → ∀ e H', H e = none → Same H H' → H' e = some (.xd [("value", v)]) → E (.ref CS) (some e) H')
theorem ok_plain {f : Addr} {fd fdI fdSt fdNs fdPr fdOr fdE : FuncData} {qual q2 : Str} (F : Fun K "plain" qual sReqPlain f fd) (T : TxtP mg fI fN fS fA fG) (hz : mg "zip" = none) (hst : mg "is_standing" = some (.ref fSt)) (hns : mg "need_standing" = some (.ref fNs)) (hpr : mg "plain_row" = some (.ref fPr)) (hor : mg "order_of" = some (.ref fOr)) (hE : mg "END" = some (.ref aE)) (WE : ∀ H, SqT K H aE [.str "end"])
    (gC : mg "BadStanding" = some (.ref CS)) (TE : ErrF K CS fE "value") (RC : ReqC K C)
    (FI : Fun K "is_int" "is_int" sPInt fI fdI) (bI : Binds K fdI ["thing"] []) (FSt : Fun K "is_standing" "is_standing" sPStand fSt fdSt) (bSt : Binds K fdSt ["settings", "thing"] []) (FE : Fun K "__init__" q2 sIniS fE fdE) (bE : Binds K fdE ["self", "value"] [])
    (FNs : Fun K "need_standing" "need_standing" sNStand fNs fdNs) (bNs : Binds K fdNs ["settings", "thing"] []) (FPr : Fun K "plain_row" "plain_row" sPPRow fPr fdPr) (bPr : Binds K fdPr ["places", "order", "standing"] []) (FOr : Fun K "order_of" "order_of" sPOrder fOr fdOr) (bOr : Binds K fdOr ["settings"] []) :
    FnOk P w K mg base (L2.CX P w) 4 f fd ["self", "standing"] (spPPlain K C CS) := by
  have GNs : FnOk P w K mg base (L2.CX P w) 3 fNs fdNs ["settings", "thing"] (spNStand K CS) := ok_nstand FNs T hz hst gC TE FI bI FSt bSt FE bE
  have GPr : FnOk P w K mg base CX0 1 fPr fdPr ["places", "order", "standing"] (spPPRow K) := ok_prow FPr T hE WE
  have GOr : FnOk P w K mg base CX0 1 fOr fdOr ["settings"] (spPOrder K) := ok_porder FOr T
  refine F.okX scPp (fun vs H Q E h => ?_) (fun cdv A outer s H vs Q E hr h => ?_)
  · obtain ⟨m, l, x, dx, pS, pP, xs, ps, qs, ds, vM, v, d, rfl, _⟩ := h
    rfl
  obtain ⟨m, l, x, dx, pS, pP, xs, ps, qs, ds, vM, v, d, rfl, hx, hs, hp, hl, hn, hP, hps, hpl, d1, d16, hd, q, qe⟩ := h
  have hr1 : Room 1 _ := hr.mono (by decide)
  refine ⟨_, pss_cons (ps_expr (pe_call GNs hr (by rfl) hns FNs.kp bNs .nil (passes_call (takes_of rfl rfl rfl rfl) fun _ _ _ _ h => h) (pa_cons (pe_fld (pv 0) rfl) (pa_cons (pv 1) pa_nil))))
    (pss_one (ps_ret (pe_call GPr hr1 (by rfl) hpr FPr.kp bPr .nil pass0 (pa_cons (pe_fld (pv 0) rfl) (pa_cons (pe_call GOr hr1 (by rfl) hor FOr.kp bOr .nil pass0 (pa_cons (pe_fld (pv 0) rfl) pa_nil)) (pa_cons (pv 1) pa_nil)))))), ?_⟩
  refine ⟨_, rfl, x, C, dx, _, _, rfl, hx, RC.cl, RC.nS, rfl, _, rfl, m, l, pS, xs, qs, v, d, rfl, hs, hp, hl, hd, fun hsd H1 s1 => ?_, fun hsd => qe hsd⟩
  obtain ⟨st, ed, so⟩ := stand_st hsd
  obtain ⟨qn, qr⟩ := q st ed so
  subst ed
  obtain ⟨pT, hv, hT⟩ : ∃ pT, v = .ref pT ∧ SqT K H pT (st.map V.int) := by
    cases hd with
    | tup e t => rw [ints_of t] at e; exact ⟨_, rfl, e⟩
  subst hv
  refine ⟨_, rfl, x, C, dx, _, _, rfl, s1 _ _ hx, RC.cl, RC.nP, rfl, _, rfl, x, C, dx, _, _, rfl, s1 _ _ hx, RC.cl, RC.nS, rfl, pS, xs, qs, rfl, Same.seqT s1 hs, hp.same s1, hl, hn, fun D hD H2 s2 gD => ?_⟩
  have s3 := s1.trans s2
  exact ⟨_, rfl, m, l, D, pP, pT, ps, qs, ds, st, rfl, hn, Same.seqT s3 hP, DqAll.same s3 _ _ hps, hpl, d1, d16, gD, Same.seqT s3 hT, so, fun h H4 s4 => qn h H4 (s3.trans s4), fun row h p H4 s4 g4 => qr row h p H4 (s3.trans s4) g4⟩
end
end Ms
namespace Ms
open PySem PySem.Spec PyProof.Rows L2
/-! ### the repr of data, as a text that is shown itself -/
def cpsOk (z : Str) : Prop := ∀ c ∈ z.cps.toList, c < 0x110000
theorem cpsOk.app {z y : Str} (h : cpsOk z) (h2 : cpsOk y) : cpsOk (z ++ y) := fun c hc => by
  rw [app_cps] at hc
  rcases List.mem_append.mp hc with hc | hc
  · exact h c hc
  · exact h2 c hc
theorem char_lt (c : Char) : c.toNat < 0x110000 := by
  rcases c.valid with h | ⟨_, h⟩
  · have : c.toNat < 0xd800 := h
    omega
  · exact h
theorem reprChar_ok {q c : Nat} (hq : q < 0x110000) (hc : c < 0x110000) : ∀ x ∈ Builtin.Str.reprChar q c, x < 0x110000 := by
  have hex : ∀ w : Nat, ∀ x ∈ List.replicate (w - ((Nat.toDigits 16 c).map Char.toNat).length) 48 ++ (Nat.toDigits 16 c).map Char.toNat, x < 0x110000 := fun w x hx => by
    rcases List.mem_append.mp hx with hx | hx
    · rw [(List.mem_replicate.mp hx).2]; decide
    · obtain ⟨d, _, rfl⟩ := List.mem_map.mp hx
      exact char_lt d
  intro x hx
  unfold Builtin.Str.reprChar at hx
  dsimp only at hx
  repeat' split at hx
  all_goals first
    | (simp only [List.mem_cons, List.mem_nil_iff, or_false] at hx
       rcases hx with rfl | rfl <;> first | assumption | decide)
    | (simp only [List.mem_cons, List.mem_nil_iff, or_false] at hx
       rw [hx]; assumption)
    | (rcases List.mem_append.mp hx with hx | hx
       · simp only [List.mem_cons, List.mem_nil_iff, or_false] at hx
         rcases hx with rfl | rfl <;> decide
       · exact hex _ x hx)
theorem repr_ok {z : Str} (h : cpsOk z) : cpsOk (reprText z) := fun c hc => by
  have hq : reprQuote z < 0x110000 := by unfold reprQuote; split <;> decide
  rw [repr_list] at hc
  rcases List.mem_cons.mp hc with rfl | hc
  · exact hq
  · rcases List.mem_append.mp hc with hc | hc
    · obtain ⟨y, hy, hc⟩ := List.mem_flatMap.mp hc
      exact reprChar_ok hq (h y hy) c hc
    · rw [List.mem_singleton.mp hc]; exact hq
theorem cps_lit {z : Str} (h : (z.cps.toList.all fun c => decide (c < 0x110000)) = true) : cpsOk z := fun c hc => by
  rw [List.all_eq_true] at h
  exact of_decide_eq_true (h c hc)
theorem text_ok : ∀ (ts : List Str) (k : Nat) (acc : Str), cpsOk acc → (∀ t ∈ ts, cpsOk t) → cpsOk (textFrom k acc ts)
  | [], _, _, h, _ => h
  | t :: r, k, acc, h, ht => by
    refine text_ok r _ _ (cpsOk.app (cpsOk.app h ?_) (ht t (List.mem_cons_self ..))) fun x hx => ht x (List.mem_cons_of_mem _ hx)
    split
    · exact cps_lit (by decide +kernel)
    · exact cps_lit (by decide +kernel)
theorem join_ok : ∀ (ts : List Str), (∀ t ∈ ts, cpsOk t) → cpsOk (Str.join ", " ts)
  | [], _ => cps_lit (by decide +kernel)
  | [t], h => h t (List.mem_cons_self ..)
  | t :: y :: r, h => by
    have e : Str.join ", " (t :: y :: r) = t ++ ", " ++ Str.join ", " (y :: r) := rfl
    rw [e]
    exact cpsOk.app (cpsOk.app (h t (List.mem_cons_self ..)) (cps_lit (by decide +kernel))) (join_ok (y :: r) fun x hx => h x (List.mem_cons_of_mem _ hx))
mutual
theorem shown_cps {B : Nat} : ∀ d : PyData, okD B d = true → cpsOk d.shown
  | .none, _ => cps_lit (by decide +kernel)
  | .bool true, _ => cps_lit (by decide +kernel)
  | .bool false, _ => cps_lit (by decide +kernel)
  | .int i, _ => fun c hc => by
    rcases int_signs i c hc with h | h <;> omega
  | .str z, e => by
    simp only [okD, List.all_eq_true, decide_eq_true_eq] at e
    exact repr_ok e
  | .list xs, e => by
    simp only [okD] at e
    simp only [PyData.shown]
    unfold listText
    exact cpsOk.app (text_ok _ _ _ (cps_lit (by decide +kernel)) (shownAll_cps xs e)) (cps_lit (by decide +kernel))
  | .tuple xs, e => by
    simp only [okD] at e
    simp only [PyData.shown]
    unfold tupleText
    refine cpsOk.app (cpsOk.app (cps_lit (by decide +kernel)) (join_ok _ (shownAll_cps xs e))) ?_
    split <;> exact cps_lit (by decide +kernel)
  | .dict [], _ => cps_lit (by decide +kernel)
  | .dict (a :: b), e => by simp [okD] at e
theorem shownAll_cps {B : Nat} : ∀ xs : List PyData, okAll B xs = true → ∀ t ∈ PyData.shownAll xs, cpsOk t
  | [], _ => fun t h => nomatch h
  | x :: xs, e => fun t h => by
    simp only [okAll, Bool.and_eq_true] at e
    rcases List.mem_cons.mp (show t ∈ x.shown :: PyData.shownAll xs from h) with rfl | h
    · exact shown_cps x e.1
    · exact shownAll_cps xs e.2 t h
end
theorem shown_sOk {a b : Nat} {d : PyData} (g : Gd (10 ^ 31) a b d) : sOk (66 * a + 64) d.shown := by
  obtain ⟨h1, h2⟩ := ok_shows d g.ok
  have h := PyData.shown_le 64 (by decide) d h2
  have w := g.wt
  refine ⟨by omega, fun c hc => shown_cps d g.ok c hc⟩
end Ms
namespace Ms
open PySem PySem.Spec PyProof.Rows L2
/-! ### the standings are those rows -/
theorem mem_fold : ∀ (qs : List (Str × Int)) (rs : List (List Int)) (r : List Int), (∀ q ∈ qs, 0 ≤ q.2) → (r ∈ qs.foldl (fun rs q => widen rs (q.2 + 1).toNat) rs ↔ ∃ r0 ∈ rs, ∃ t, r = r0 ++ t ∧ stOk qs t)
  | [], rs, r, _ => by
    constructor
    · intro h
      exact ⟨r, h, [], by simp, rfl, fun i q v h1 _ => by simp at h1⟩
    · rintro ⟨r0, h, t, e, h1, _⟩
      have : t = [] := List.eq_nil_of_length_eq_zero h1
      rw [e, this, List.append_nil]; exact h
  | q :: qs, rs, r, h => by
    have hq := h q (List.mem_cons_self ..)
    rw [List.foldl_cons, mem_fold qs _ r fun x hx => h x (List.mem_cons_of_mem _ hx)]
    constructor
    · rintro ⟨r1, h1, t, e, so⟩
      unfold widen at h1
      obtain ⟨r0, h0, h1⟩ := List.mem_flatMap.mp h1
      obtain ⟨v, hv, rfl⟩ := List.mem_map.mp h1
      rw [List.mem_range] at hv
      refine ⟨r0, h0, (v : Int) :: t, by rw [e, List.append_assoc]; rfl, by simp [so.1], fun i q' v' h1 h2 => ?_⟩
      cases i with
      | zero =>
        cases h1
        cases h2
        omega
      | succ i => exact so.2 i q' v' (by simpa using h1) (by simpa using h2)
    · rintro ⟨r0, h0, t, e, so⟩
      cases t with
      | nil => exact absurd so.1 (by simp)
      | cons v t =>
        have b := so.2 0 q v rfl rfl
        refine ⟨r0 ++ [v], ?_, t, by rw [e, List.append_assoc]; rfl, by simpa using so.1, fun i q' v' h1 h2 => so.2 (i + 1) q' v' (by simpa using h1) (by simpa using h2)⟩
        unfold widen
        refine List.mem_flatMap.mpr ⟨r0, h0, List.mem_map.mpr ⟨v.toNat, List.mem_range.mpr (by omega), ?_⟩⟩
        have : ((v.toNat : Nat) : Int) = v := by omega
        rw [this]
theorem mem_grid {qs : List (Str × Int)} {r : List Int} (h : ∀ q ∈ qs, 0 ≤ q.2) : r ∈ grid qs ↔ stOk qs r := by
  unfold grid
  rw [mem_fold qs _ r h]
  constructor
  · rintro ⟨r0, h0, t, e, so⟩
    rw [List.mem_singleton] at h0
    rw [e, h0, List.nil_append]; exact so
  · intro so
    exact ⟨[], List.mem_singleton.mpr rfl, r, by simp, so⟩
def rowS (r : List Int) : Str := (PyData.tuple (r.map .int)).shown
theorem in_rows {qs : List (Str × Int)} {d : PyData} (h : ∀ q ∈ qs, 0 ≤ q.2 ∧ q.2 ≤ 9) (l : 1 ≤ qs.length) : decide (d.shown ∈ (grid qs).map rowS) = standD qs d := by
  rw [Bool.eq_iff_iff, decide_eq_true_eq]
  have h0 : ∀ q ∈ qs, 0 ≤ q.2 := fun q hq => (h q hq).1
  constructor
  · intro hm
    obtain ⟨r, hr, e⟩ := List.mem_map.mp hm
    have so := (mem_grid h0).mp hr
    have := shown_ints (d := d) (is := r) (fun i hi => ?_) (fun z => ?_) e.symm
    · rw [this]; exact st_stand so
    · obtain ⟨j, hj⟩ := List.mem_iff_getElem?.mp hi
      obtain ⟨b, _⟩ := List.getElem?_eq_some_iff.mp hj
      have hq : qs[j]? = some (qs[j]'(by rw [← so.1]; exact b)) := List.getElem?_eq_getElem _
      have := so.2 j _ i hq hj
      have := h _ (List.mem_of_getElem? hq)
      omega
    · have := so.1
      rw [z] at this
      simp at this
      omega
  · intro hs
    obtain ⟨st, e, so⟩ := stand_st hs
    exact List.mem_map.mpr ⟨st, (mem_grid h0).mpr so, by rw [e]; rfl⟩
end Ms
namespace Ms
open PySem PySem.Spec PyProof.Rows L2
/-! ### o.m(..) in a suite that catches: what is wished hangs on the slots -/
section
variable {X : Cx} {CX : CXT} {k : Nat} {f C : Addr} {fd : FuncData} {ps : List Str} {sp : Sp} {E : L2.St → XK} {m : Str} {pos apos : Pos} {e o : Expr} {es : List Expr} {ta : TE} {t : TA}
def tMethS (C : Addr) (m : Str) (sp : Sp) (E : L2.St → XK) (ta : TE) (t : TA) : TE := fun σ H Q => ta σ H fun x H1 => ∃ a dx fs, x = .ref a ∧ H1 a = some (.ins C dx fs) ∧ fs.lookup m = none ∧ t σ H1 fun vs H2 => sp (x :: vs) H2 Q (E σ)
theorem pe_methS {pl : Sem Bool} (he : PE X o ta) (c : Cls X.K C) (hm : Meth X.K C m f) (F : FnOk X.prog X.w X.K X.mg X.base CX k f fd ps sp) (hr : Room k X.A) (hb : Binds X.K fd ps []) (hx : ∀ σ, PassesAt CX X σ (E σ)) (ha : PA X (e :: es) t)
    (hst : starEach (e :: es) X.env = (false, eval e X.env) :: starEach es X.env := by rfl) (hpl : (backTo pos (starEach es X.env)).any (·.1) = false := by rfl)
    (ht : eval (.Call (.Attribute o m apos) (e :: es) [] pos) X.env = (do
      let ov ← eval o X.env
      standAt apos.atName
      let (f, first) ← holding [ov] (getMethod ov m pl)
      callWith pos f first (backTo pos (starEach (e :: es) X.env)) (backToKw pos (keywordEach [] X.env))) := by rfl) :
    PE X (.Call (.Attribute o m apos) (e :: es) [] pos) (tMethS C m sp E ta t) := by
  refine ⟨fun pins s σ H Q I h => ?_⟩
  refine PySem.W.methodCall_KW (pl := pl) (thn (he.run pins s σ H _ I h) fun u s1 ⟨x, H1, I1, rx, a, dx, fs, ex, ea, l, q⟩ => ?_) ht
  subst ex
  obtain rfl : u = Value.ref a := rx
  refine getmeth_ok I1 ea c hm l ?_
  refine PySem.W.callWith_K (first := [.ref a]) (h₀ := X.base) I.ok.mod.kin hm.kp (thn (ha.run pos pins s1 σ H1 _ I1 q) fun us s2 ⟨vs, H2, I2, r, q2⟩ => ⟨I2.kIn, ?_⟩) hst hpl
  exact run_fnS (us := .ref a :: us) (vs := .ref a :: vs) F hr hb (hx σ) I2 (.cons rfl r) q2
end
end Ms
namespace Ms
open PySem PySem.Spec PyProof.Rows L2
/-! ### _law_places: a list that grows while numbers are drawn -/
theorem Fr.relock {m l l' D : Addr} {H H' : Hp} {o : HO} (f : Fr m l l' H H') (h : H D = none) : Fr m l l' H (upd H' D o) :=
  ⟨fun b o e h1 h2 => by rw [upd_ne (ne_of_none e h)]; exact f.keep b o e h1 h2, f.new, fun b h => upd_dom (f.dom b h)⟩
/-- the state, with the growing list locked -/
structure Stt (K : PySem.W.Frag) (H0 : Hp) (m l0 D W : Addr) (ws : List Str) (od : Obj) (u : List V) (l : Addr) (n : Nat) (acc : List V) (ds : List PyData) (Hb : Hp) : Prop where
  frz : Hb D = some (.frz od (.lst u))
  M : Mch Hb m l n
  F : Fr m l0 l H0 Hb
  w : Hb W = some (.lst (ws.map V.str))
  wl : W ≠ l
  it : DqAll K Hb m l acc ds
section
variable {K : PySem.W.Frag} {H0 Hb : Hp} {m l0 D W l : Addr} {ws : List Str} {od : Obj} {u acc : List V} {n : Nat} {ds : List PyData}
theorem Mch.nm {H : Hp} {p : Addr} {o : HO} (M : Mch H m l n) (h : H p = some o) (ho : ∀ kv, o ≠ .dK kv) : p ≠ m := by
  obtain ⟨c, cs, ls, z, h1, _⟩ := M.ex
  exact ne_of h h1 (fun e => ho _ e)
theorem Mch.nl {H : Hp} {p : Addr} {o : HO} (M : Mch H m l n) (h : H p = some o) (ho : ∀ xs, o ≠ .lst xs) : p ≠ l := by
  obtain ⟨c, cs, ls, z, _, _, h1, _⟩ := M.ex
  exact ne_of h h1 (fun e => ho _ e)
theorem Stt.relock (s : Stt K H0 m l0 D W ws od u l n acc ds Hb) (hD : H0 D = none) (od' : Obj) (u' : List V) : Stt K H0 m l0 D W ws od' u' l n acc ds (upd Hb D (.frz od' (.lst u'))) := by
  refine ⟨upd_same, Mch.unlock s.frz s.M, s.F.relock hD, upd_frz s.frz (fun _ _ z => nomatch z) s.w, s.wl, ?_⟩
  exact DqAll.gen (fun a xs q n1 n2 => ⟨upd_frz s.frz (fun _ _ z => nomatch z) q, n1, n2⟩) (fun a xs q => by
    have := Dq.unlock (K := K) (m := m) (l := l) (o := .frz od' (.lst u')) (d := .tuple []) (v := .ref a) s.frz
    rcases q with (q | ⟨o', q⟩) | q
    · exact .inl (.inl (upd_frz s.frz (fun _ _ z => nomatch z) q))
    · have q' : Hb a = some (.frz o' (.tup xs)) := q
      have nb : a ≠ D := fun z => by rw [z, s.frz] at q'; cases q'
      have q2 : upd Hb D (.frz od' (.lst u')) a = some (.frz o' (.tup xs)) := by rw [upd_ne nb]; exact q'
      exact .inl (.inr ⟨o', q2⟩)
    · exact .inr q) (fun a q n1 n2 => ⟨upd_frz s.frz (fun _ _ z => nomatch z) q, n1, n2⟩) _ _ s.it
/-- a step of the machine, the list locked -/
theorem Stt.step (s : Stt K H0 m l0 D W ws od u l n acc ds Hb) {l' : Addr} {n' : Nat} {H' : Hp} (M' : Mch H' m l' n') (f : Fr m l l' Hb H') : Stt K H0 m l0 D W ws od u l' n' acc ds H' := by
  have nD : D ≠ m ∧ D ≠ l := ⟨s.M.nm s.frz (fun _ z => nomatch z), s.M.nl s.frz (fun _ z => nomatch z)⟩
  have nW : W ≠ m := s.M.nm s.w (fun _ z => nomatch z)
  refine ⟨f.keep _ _ s.frz nD.1 nD.2, M', s.F.trans f, f.keep _ _ s.w nW s.wl, ?_, DqAll.step (s.M.step f) _ _ s.it⟩
  rcases f.new with z | z
  · rw [z]; exact s.wl
  · exact ne_of_none s.w z
theorem Stt.grow (s : Stt K H0 m l0 D W ws od u l n acc ds Hb) {H' : Hp} (k : Same Hb H') : Stt K H0 m l0 D W ws od u l n acc ds H' :=
  ⟨k _ _ s.frz, s.M.same k, ⟨fun b o e h1 h2 => k _ _ (s.F.keep b o e h1 h2), s.F.new, fun b h => by
    have h2 := s.F.dom b h
    cases q : Hb b with
    | none => exact absurd q h2
    | some o => rw [k b o q]; exact fun z => nomatch z⟩, k _ _ s.w, s.wl, DqAll.same k _ _ s.it⟩
theorem Stt.mono {n' : Nat} (s : Stt K H0 m l0 D W ws od u l n acc ds Hb) (h : n ≤ n') : Stt K H0 m l0 D W ws od u l n' acc ds Hb := ⟨s.frz, s.M.mono h, s.F, s.w, s.wl, s.it⟩
theorem Stt.more (s : Stt K H0 m l0 D W ws od u l n acc ds Hb) {v : V} {d : PyData} (h : Dq K Hb m l v d) : Stt K H0 m l0 D W ws od u l n (acc ++ [v]) (ds ++ [d]) Hb :=
  ⟨s.frz, s.M, s.F, s.w, s.wl, DqAll.app s.it (.cons h .nil)⟩
/-- a drawn number, the list locked while it is drawn -/
theorem lk_next {E : XK} {σ : L2.St} {Q : VK} {tk : TE} {k : Int} (hD : H0 D = none) (s : Stt K H0 m l0 D W ws od u l n acc ds Hb) (hn : n < 1000000) (hm : σ[0]? = some (some (.ref m))) (h0 : 0 < k) (h1 : k < 1000000)
    (ht : ∀ od' Q', Q' (.int k) (upd Hb D (.frz od' (.lst acc))) → tk σ (upd Hb D (.frz od' (.lst acc))) Q')
    (q : ∀ (r : Int) (l' : Addr) (G : Hp), 0 ≤ r → r < k → Stt K H0 m l0 D W ws od acc l' (n + 1) acc ds G → Q (.int r) (upd G D (.lst acc))) :
    tLockE (tCall spNext [] E (tCons (tVar 0) (tCons tk tNil))) σ (upd Hb D (.lst acc)) Q := by
  refine ⟨D, .lst acc, upd_same, trivial, fun od' => ?_⟩
  rw [upd_upd]
  have s' := s.relock hD od' acc
  refine ⟨_, hm, ht od' _ ⟨m, l, n, k, rfl, s'.M, hn, h0, h1, fun r l' H' r0 r1 M' f => ?_⟩⟩
  have s2 := s'.step M' f
  refine ⟨s2.frz, ?_⟩
  have s3 := s2.relock hD od acc
  have e : upd (upd H' D (.frz od (.lst acc))) D (.lst acc) = upd H' D (.lst acc) := upd_upd ..
  rw [← e]
  exact q r l' _ r0 r1 s3
theorem DqAll.unlock {H : Hp} {L : Addr} {o : HO} {u' : List V} (h : H L = some (.frz od (.lst u'))) {vs : List V} {ds : List PyData} (hd : DqAll K H m l vs ds) : DqAll K (upd H L o) m l vs ds :=
  DqAll.gen (fun a xs q n1 n2 => ⟨upd_frz h (fun _ _ z => nomatch z) q, n1, n2⟩) (fun a xs q => by
    rcases q with (q | ⟨o', q⟩) | q
    · exact .inl (.inl (upd_frz h (fun _ _ z => nomatch z) q))
    · have q' : H a = some (.frz o' (.tup xs)) := q
      have nb : a ≠ L := fun z => by rw [z, h] at q'; cases q'
      have q2 : upd H L o a = some (.frz o' (.tup xs)) := by rw [upd_ne nb]; exact q'
      exact .inl (.inr ⟨o', q2⟩)
    · exact .inr q) (fun a q n1 n2 => ⟨upd_frz h (fun _ _ z => nomatch z) q, n1, n2⟩) _ _ hd
/-- another locked list changes -/
theorem Stt.other (s : Stt K H0 m l0 D W ws od u l n acc ds Hb) {D2 : Addr} {od2 : Obj} {u2 : List V} (g : Hb D2 = some (.frz od2 (.lst u2))) (nD : D2 ≠ D) (h2 : H0 D2 = none) (o : HO) : Stt K H0 m l0 D W ws od u l n acc ds (upd Hb D2 o) :=
  ⟨by rw [upd_ne nD.symm]; exact s.frz, Mch.unlock g s.M, s.F.relock h2, upd_frz g (fun _ _ z => nomatch z) s.w, s.wl, DqAll.unlock g s.it⟩
theorem upd_two {H : Hp} {a b : Addr} {o o' : HO} (h : a ≠ b) : upd (upd H a o) b o' = upd (upd H b o') a o := by
  funext x
  by_cases e1 : x = a
  · rw [e1, upd_ne h, upd_same, upd_same]
  · by_cases e2 : x = b
    · rw [e2, upd_same, upd_ne (fun z => e1 (e2.trans z)), upd_same]
    · rw [upd_ne e2, upd_ne e1, upd_ne e1, upd_ne e2]
/-- the same with two lists that are locked -/
theorem lk2_next {E : XK} {σ : L2.St} {Q : VK} {tk : TE} {k : Int} {D2 : Addr} {od2 : Obj} {u2 ns : List V} (hD : H0 D = none) (hD2 : H0 D2 = none) (nD : D2 ≠ D) (s : Stt K H0 m l0 D W ws od u l n acc ds Hb) (g2 : Hb D2 = some (.frz od2 (.lst u2))) (hn : n < 1000000) (hm : σ[0]? = some (some (.ref m))) (h0 : 0 < k) (h1 : k < 1000000)
    (ht : ∀ G Q', Q' (.int k) G → tk σ G Q')
    (q : ∀ (r : Int) (l' : Addr) (od od2 : Obj) (G : Hp), 0 ≤ r → r < k → Stt K H0 m l0 D W ws od acc l' (n + 1) acc ds G → G D2 = some (.frz od2 (.lst ns)) → Q (.int r) (upd (upd G D2 (.lst ns)) D (.lst acc))) :
    tLockE (tLockE (tCall spNext [] E (tCons (tVar 0) (tCons tk tNil)))) σ (upd (upd Hb D2 (.lst ns)) D (.lst acc)) Q := by
  refine ⟨D, .lst acc, upd_same, trivial, fun od' => ?_⟩
  rw [upd_upd]
  refine ⟨D2, .lst ns, by rw [upd_ne nD, upd_same], trivial, fun od2' => ?_⟩
  rw [← upd_two nD, upd_upd, upd_two nD]
  have s1 := (s.relock hD od' acc).other (od2 := od2) (u2 := u2) (by rw [upd_ne nD]; exact g2) nD hD2 (.frz od2' (.lst ns))
  refine ⟨_, hm, ht _ _ ⟨m, l, n, k, rfl, s1.M, hn, h0, h1, fun r l' H' r0 r1 M' f => ?_⟩⟩
  have s2 := s1.step M' f
  have e2 : H' D2 = some (.frz od2' (.lst ns)) := f.keep _ _ upd_same (s1.M.nm upd_same (fun _ z => nomatch z)) (s1.M.nl upd_same (fun _ z => nomatch z))
  exact ⟨e2, by rw [upd_ne nD.symm]; exact s2.frz, q r l' _ _ _ r0 r1 s2 e2⟩
end
end Ms
namespace Ms
open PySem PySem.Spec PyProof.Rows L2
structure TxtL (mg : Str → Option Value) (fN fM : Addr) : Prop extends TxtS mg fN fM where
  min : mg "min" = none
abbrev NPl : List Str := ["m", "spots", "most", "many", "words", "found", "back", "at", "way", "near", "low", "word", "name", "bound", "row", "k"]
theorem scPc : FnScope NPl ["m", "spots", "most"] (defScope sPlaces) := ⟨rfl, rfl, rfl, by decide +kernel, rfl, by decide +kernel, by decide +kernel⟩
def spPlaces (K : PySem.W.Frag) : Sp := fun vs H Q _ => ∃ (m l a : Addr) (n : Nat) (as : List Addr) (qs : List (Str × Int)) (k : Nat), vs = [.ref m, .ref a, .int (k : Int)] ∧ Mch H m l n ∧ n < 600000 ∧ H a = some (.tup (as.map V.ref)) ∧ Prs H as qs ∧ okP qs ∧ 1 ≤ qs.length ∧ qs.length ≤ 3 ∧ 1 ≤ k ∧ k ≤ 16 ∧
  ∀ (p : Addr) (xs : List V) (ds : List PyData) (l' : Addr) (H' : Hp), H' p = some (.tup xs) → DqAll K H' m l' xs ds → Gd big 7500 3 (.tuple ds) → 1 ≤ ds.length → ds.length ≤ 16 → Mch H' m l' (n + 220) → Fr m l l' H H' → Q (.ref p) H'
def spPlacesV (K : PySem.W.Frag) : Sp := fun vs H Q _ => ∃ (m l a : Addr) (n : Nat) (as : List Addr) (qs : List (Str × Int)) (k : Nat), vs = [.ref m, .ref a, .int (k : Int)] ∧ Mch H m l n ∧ n < 600000 ∧ H a = some (.tup (as.map V.ref)) ∧ Prs H as qs ∧ okP qs ∧ 1 ≤ qs.length ∧ qs.length ≤ 3 ∧ 1 ≤ k ∧ k ≤ 16 ∧
  ∀ (p : Addr) (xs : List V) (ds : List PyData) (l' : Addr) (H' : Hp), H' p = some (.tup xs) → DqAll K H' m l' xs ds → Gd big 7500 3 (.tuple ds) → 1 ≤ ds.length → ds.length ≤ 16 → (∀ d ∈ ds, plD qs (ds.length : Int) d) → Mch H' m l' (n + 220) → Fr m l l' H H' → Q (.ref p) H'
section
variable {P : Program} {w : World} {K : PySem.W.Frag} {mg : Str → Option Value} {base : Heap} {fN fM : Addr}
abbrev thenOf (s : Stmt) : List Stmt := match s with
  | .If _ b _ _ => b
  | _ => []
abbrev elseOf (s : Stmt) : List Stmt := match s with
  | .If _ _ b _ => b
  | _ => []
abbrev bPlaces : List Stmt := match (defBody sPlaces).getD 2 (.Pass ⟨0, 0, 0, 0⟩) with
  | .For _ _ b _ _ => b
  | _ => []
theorem Stt.wD {K : PySem.W.Frag} {H0 Hb : Hp} {m l0 D W l : Addr} {ws : List Str} {od : Obj} {u acc : List V} {n : Nat} {ds : List PyData} (s : Stt K H0 m l0 D W ws od u l n acc ds Hb) {o : HO} : (upd Hb D o) W = some (.lst (ws.map V.str)) := by
  rw [upd_ne (ne_of s.w s.frz (fun z => nomatch z))]; exact s.w
theorem ok_placesV {f : Addr} {fd fdN fdM : FuncData} (F : Fun K "_law_places" "_law_places" sPlaces f fd) (T : TxtL mg fN fM) (FN : Fun K "_law_next" "_law_next" sNext fN fdN) (bN : Binds K fdN ["m", "many"] [])
    (FM : Fun K "_law_names" "_law_names" sNames fM fdM) (bM : Binds K fdM ["m", "many"] []) : FnOk P w K mg base CX0 3 f fd ["m", "spots", "most"] (spPlacesV K) := by
  have GN : FnOk P w K mg base CX0 2 fN fdN ["m", "many"] spNext := (ok_next FN T.toTxt).mono (by decide)
  have GM : FnOk P w K mg base CX0 2 fM fdM ["m", "many"] spNamesV := ok_namesV FM T.toTxtN FN bN
  refine F.ok scPc (fun vs H Q E h => ?_) (fun cdv A outer s H vs Q E hr h => ?_)
  · obtain ⟨m, l, a, n, as, qs, k, rfl, _⟩ := h
    rfl
  obtain ⟨m, l, a, n, as, qs, k, rfl, M, hn, ha, hp, op, q1, q3, k1, k16, q⟩ := h
  have aM := M.nm ha (fun _ z => nomatch z)
  have aL := M.nl ha (fun _ z => nomatch z)
  have lq := hp.length
  have spot : ∀ {L W : Addr} {ws : List Str} {od : Obj} {u acc : List V} {l1 : Addr} {n1 : Nat} {ds : List PyData} {G : Hp} {o : HO}, H L = none → Stt K H m l L W ws od u l1 n1 acc ds G → (upd G L o) a = some (.tup (as.map V.ref)) := fun hL s => by
    rw [upd_ne (ne_of_none ha hL)]; exact s.F.keep _ _ ha aM aL
  have stE : ∃ t, PSs (cxOf CX0 P w K mg base NPl "_law_places" (defScope sPlaces) f cdv A outer s H E).nox (thenOf (bPlaces.getD 2 (.Pass ⟨0, 0, 0, 0⟩))) t ∧ ∀ (Dn : Ends) (Hb : Hp) (L W : Addr) (ws : List Str) (od : Obj) (u acc : List V) (l1 : Addr) (n1 : Nat) (ds : List PyData) (many back ix way near low : Int) (v2 v11 v12 v13 v14 v15 : Option V),
      H L = none → Stt K H m l L W ws od u l1 n1 acc ds Hb → n1 < 900000 → ws.length = 3 → (∀ y ∈ ws, nmOk y) → acc.length ≤ 20 → 0 ≤ near → 0 ≤ low → low ≤ near → near < many → many ≤ 16 →
      (∀ (v11 v12 v13 v14 v15 : Option V) (od : Obj) (u : List V) (l2 : Addr) (n2 : Nat) (v : V) (d : PyData) (G : Hp), Stt K H m l L W ws od u l2 n2 (acc ++ [v]) (ds ++ [d]) G → PlG qs many d → n2 ≤ n1 + 0 →
        Dn.nx [some (.ref m), some (.ref a), v2, some (.int many), some (.ref W), some (.ref L), some (.int back), some (.int ix), some (.int way), some (.int near), some (.int low), v11, v12, v13, v14, v15] (upd G L (.lst (acc ++ [v])))) →
      t Dn [some (.ref m), some (.ref a), v2, some (.int many), some (.ref W), some (.ref L), some (.int back), some (.int ix), some (.int way), some (.int near), some (.int low), v11, v12, v13, v14, v15] (upd Hb L (.lst acc)) := by
    refine ⟨_, pss_one (ps_expr (pe_bm PySem.F.plainAttrs_list PySem.F.slot_list_append PySem.F.type_list_append mt_append (pv 5) (pa_cons (pe_lock (pe_tup (pa_cons pe_str pa_nil))) pa_nil))), ?_⟩
    intro Dn Hb L W ws od u acc l1 n1 ds many back ix way near low v2 v11 v12 v13 v14 v15 hL S hn1 wl wok al n0 lo0 lon nm m16 nx
    refine ⟨_, rfl, .inl ⟨rfl, _, SqL.of upd_same⟩, L, .lst acc, upd_same, trivial, fun od' => ?_⟩
    rw [upd_upd]
    have s1 := S.relock hL od' acc
    refine ⟨(by show 1 ≤ sizeLine; decide), fun p hp => ?_⟩
    have s2 := s1.grow (Same.upd (o := .tup [.str "end"]) hp)
    refine ⟨s2.frz, L, acc, _, rfl, rfl, upd_same, small1000 (by omega), ?_⟩
    rw [upd_upd]
    exact nx _ _ _ _ _ _ _ _ _ _ _ _ (s2.more (d := .tuple [.str "end"]) (.tup (.inl (.inl upd_same)) (.cons (.str _) .nil))) ⟨end_good, .inl rfl⟩ (Nat.le_refl _)
  have stD : ∃ t, PSs (cxOf CX0 P w K mg base NPl "_law_places" (defScope sPlaces) f cdv A outer s H E).nox (thenOf ((elseOf (bPlaces.getD 2 (.Pass ⟨0, 0, 0, 0⟩))).getD 0 (.Pass ⟨0, 0, 0, 0⟩))) t ∧ ∀ (Dn : Ends) (Hb : Hp) (L W : Addr) (ws : List Str) (od : Obj) (u acc : List V) (l1 : Addr) (n1 : Nat) (ds : List PyData) (many back ix way near low : Int) (v2 v11 v12 v13 v14 v15 : Option V),
      H L = none → Stt K H m l L W ws od u l1 n1 acc ds Hb → n1 < 900000 → ws.length = 3 → (∀ y ∈ ws, nmOk y) → acc.length ≤ 20 → 0 ≤ near → 0 ≤ low → low ≤ near → near < many → many ≤ 16 →
      (∀ (v11 v12 v13 v14 v15 : Option V) (od : Obj) (u : List V) (l2 : Addr) (n2 : Nat) (v : V) (d : PyData) (G : Hp), Stt K H m l L W ws od u l2 n2 (acc ++ [v]) (ds ++ [d]) G → PlG qs many d → n2 ≤ n1 + 3 →
        Dn.nx [some (.ref m), some (.ref a), v2, some (.int many), some (.ref W), some (.ref L), some (.int back), some (.int ix), some (.int way), some (.int near), some (.int low), v11, v12, v13, v14, v15] (upd G L (.lst (acc ++ [v])))) →
      t Dn [some (.ref m), some (.ref a), v2, some (.int many), some (.ref W), some (.ref L), some (.int back), some (.int ix), some (.int way), some (.int near), some (.int low), v11, v12, v13, v14, v15] (upd Hb L (.lst acc)) := by
    refine ⟨_, pss_cons (ps_set (i := 11) scPc.nd rfl (by first | exact Or.inl rfl | exact Or.inr rfl) (pe_ix ix_list (pv 4) (pe_lock (pe_call GN hr (by rfl) T.next FN.kp bN .nil pass0 (pa_cons (pv 0) (pa_cons pe_int pa_nil)))) (fun _ _ => rfl)))
      (pss_one (ps_expr (pe_bm PySem.F.plainAttrs_list PySem.F.slot_list_append PySem.F.type_list_append mt_append (pv 5) (pa_cons (pe_lock (pe_tup (pa_cons pe_str (pa_cons (pv 11) (pa_cons (pe_ifExp (pt_cmpR op_gt (pe_call GN hr (by rfl) T.next FN.kp bN .nil pass0 (pa_cons (pv 0) (pa_cons pe_int pa_nil))) pe_int (nomark _)) (pv 9) (pe_op op_add (pv 10) (pe_call GN hr (by rfl) T.next FN.kp bN .nil pass0 (pa_cons (pv 0) (pa_cons (pe_op op_sub (pv 3) (pv 10)) pa_nil))))) pa_nil))))) pa_nil)))), ?_⟩
    intro Dn Hb L W ws od u acc l1 n1 ds many back ix way near low v2 v11 v12 v13 v14 v15 hL S hn1 wl wok al n0 lo0 lon nm m16 nx
    refine ⟨_, rfl, lk_next hL S (by omega) rfl (by decide) (by decide) (fun _ _ h => h) fun r l2 G r0 r3 s1 => ?_⟩
    obtain ⟨j, rfl⟩ : ∃ j : Nat, r = (j : Int) := ⟨r.toNat, by omega⟩
    obtain ⟨y, hy⟩ : ∃ y, ws[j]? = some y := ⟨_, List.getElem?_eq_getElem (by omega)⟩
    have yo := wok y (List.mem_of_getElem? hy)
    refine ⟨W, _, (j : Int), .str y, rfl, rfl, SqL.of s1.wD, atI_nat (by rw [List.getElem?_map, hy]; rfl), ?_⟩
    refine ⟨_, rfl, .inl ⟨rfl, _, SqL.of upd_same⟩, L, .lst acc, upd_same, trivial, fun od' => ?_⟩
    rw [upd_upd]
    have s2 := s1.relock hL od' acc
    have fin : ∀ (r : Int) (l3 : Addr) (n3 : Nat) (G3 : Hp), 0 ≤ r → r < many → n3 ≤ n1 + 3 → Stt K H m l L W ws od' acc l3 n3 acc ds G3 → ∀ p, G3 p = none → (upd G3 p (.tup [.str "do", .str y, .int r])) L = some (.frz od' (.lst acc)) ∧ ∃ (p1 : Addr) (acc' : List V) (z : V), V.ref L = .ref p1 ∧ [V.ref p] = [z] ∧ (upd (upd G3 p (.tup [.str "do", .str y, .int r])) L (.lst acc)) p1 = some (.lst acc') ∧ acc'.length < sizeLine ∧
        Dn.nx [some (.ref m), some (.ref a), v2, some (.int many), some (.ref W), some (.ref L), some (.int back), some (.int ix), some (.int way), some (.int near), some (.int low), some (.str y), v12, v13, v14, v15] (upd (upd (upd G3 p (.tup [.str "do", .str y, .int r])) L (.lst acc)) p1 (.lst (acc' ++ [z]))) := by
      intro r l3 n3 G3 q0 q1 qn s3 p hp
      have s4 := s3.grow (Same.upd (o := .tup [.str "do", .str y, .int r]) hp)
      refine ⟨s4.frz, L, acc, _, rfl, rfl, upd_same, small1000 (by omega), ?_⟩
      rw [upd_upd]
      exact nx _ _ _ _ _ _ _ _ _ _ _ _ (s4.more (d := .tuple [.str "do", .str y, .int r]) (.tup (.inl (.inl upd_same)) (.cons (.str _) (.cons (.str _) (.cons (.int _) .nil))))) ⟨do_good yo.ok q0 (by omega), .inr (.inl ⟨y, r, rfl, yo, q0, q1⟩)⟩ qn
    refine ⟨_, rfl, _, rfl, m, l2, n1 + 1, 3, rfl, s2.M, by omega, by decide, by decide, fun r5 l3 G3 a5 b5 M3 f3 => ⟨_, _, rfl, rfl, _, rfl, ite_b (fun _ => ?_) (fun _ => ?_)⟩⟩
    · exact ⟨_, rfl, (by show 3 ≤ sizeLine; decide), fin near l3 (n1 + 1 + 1) G3 n0 (by omega) (by omega) (s2.step M3 f3)⟩
    · refine ⟨_, rfl, _, rfl, _, rfl, _, rfl, _, _, rfl, rfl, m, l3, n1 + 1 + 1, many - low, rfl, M3, by omega, by omega, by omega, fun r6 l4 G4 a6 b6 M4 f4 => ⟨low, r6, rfl, rfl, (by show 3 ≤ sizeLine; decide), ?_⟩⟩
      exact fin (low + r6) l4 (n1 + 1 + 1 + 1) G4 (by omega) (by omega) (by omega) ((s2.step M3 f3).step M4 f4)
  have stA : ∃ t, PSs (cxOf CX0 P w K mg base NPl "_law_places" (defScope sPlaces) f cdv A outer s H E).nox (elseOf ((elseOf (bPlaces.getD 2 (.Pass ⟨0, 0, 0, 0⟩))).getD 0 (.Pass ⟨0, 0, 0, 0⟩))) t ∧ ∀ (Dn : Ends) (Hb : Hp) (L W : Addr) (ws : List Str) (od : Obj) (u acc : List V) (l1 : Addr) (n1 : Nat) (ds : List PyData) (many back ix way near low : Int) (v2 v11 v12 v13 v14 v15 : Option V),
      H L = none → Stt K H m l L W ws od u l1 n1 acc ds Hb → n1 < 900000 → ws.length = 3 → (∀ y ∈ ws, nmOk y) → acc.length ≤ 20 → 0 ≤ near → 0 ≤ low → low ≤ near → near < many → many ≤ 16 →
      (∀ (v11 v12 v13 v14 v15 : Option V) (od : Obj) (u : List V) (l2 : Addr) (n2 : Nat) (v : V) (d : PyData) (G : Hp), Stt K H m l L W ws od u l2 n2 (acc ++ [v]) (ds ++ [d]) G → PlG qs many d → n2 ≤ n1 + 9 →
        Dn.nx [some (.ref m), some (.ref a), v2, some (.int many), some (.ref W), some (.ref L), some (.int back), some (.int ix), some (.int way), some (.int near), some (.int low), v11, v12, v13, v14, v15] (upd G L (.lst (acc ++ [v])))) →
      t Dn [some (.ref m), some (.ref a), v2, some (.int many), some (.ref W), some (.ref L), some (.int back), some (.int ix), some (.int way), some (.int near), some (.int low), v11, v12, v13, v14, v15] (upd Hb L (.lst acc)) := by
    refine ⟨_, pss_cons (ps_asg (pe_ix ix_tup (pv 1) (pe_lock (pe_call GN hr (by rfl) T.next FN.kp bN .nil pass0 (pa_cons (pv 0) (pa_cons (pe_callB call_len (by rfl) T.len PySem.boot_len (pa_cons (pv 1) pa_nil)) pa_nil)))) (fun _ _ => rfl)) (pg_tup rfl (pgs_cons (pg_name (i := 12) scPc.nd rfl (by first | exact Or.inl rfl | exact Or.inr rfl)) (pgs_cons (pg_name (i := 13) scPc.nd rfl (by first | exact Or.inl rfl | exact Or.inr rfl)) pgs_nil))))
        (pss_cons (ps_setLc (i := 14) (own := [("k", 15)]) (g := gName 15) (by rfl) scPc.nd rfl (by first | exact Or.inl rfl | exact Or.inr rfl | rfl) (by rfl) (pi_range1 (by rfl) T.range (pa_cons (pe_op op_add (pv 13) pe_int) pa_nil)) (blkOk_by (own := [("k", 15)]) (N := NPl) (sc := defScope sPlaces) (by decide +kernel))
          (fun _ _ _ _ _ => pg_name (i := 15) scPc.nd rfl (by first | exact Or.inl rfl | exact Or.inr rfl)) (fun _ _ _ _ _ => pts_nil) (fun _ _ _ _ _ => pe_ifExp (pt_cmpR op_eq (pe_lock (pe_lock (pe_call GN hr (by rfl) T.next FN.kp bN .nil pass0 (pa_cons (pv 0) (pa_cons pe_int pa_nil))))) pe_int (nomark _)) (pv 9) (pe_op op_add (pv 10) (pe_lock (pe_lock (pe_call GN hr (by rfl) T.next FN.kp bN .nil pass0 (pa_cons (pv 0) (pa_cons (pe_op op_sub (pv 3) (pv 10)) pa_nil))))))))
        (pss_one (ps_expr (pe_bm PySem.F.plainAttrs_list PySem.F.slot_list_append PySem.F.type_list_append mt_append (pv 5) (pa_cons (pe_lock (pe_tup (pa_cons pe_str (pa_cons (pv 12) (pa_cons (pe_callTy call_tuple_of (by rfl) T.tuple (by decide +kernel) (pa_cons (pv 14) pa_nil)) pa_nil))))) pa_nil))))), ?_⟩
    intro Dn Hb L W ws od u acc l1 n1 ds many back ix way near low v2 v11 v12 v13 v14 v15 hL S hn1 wl wok al n0 lo0 lon nm m16 nx
    refine ⟨_, rfl, lk_next (k := as.length) hL S (by omega) rfl (by omega) (by omega) (fun od' Q' h => ⟨_, rfl, .ref a, (as.map V.ref).length, rfl, .inr ⟨_, SqT.of (spot hL S), rfl⟩, by rw [List.length_map]; exact h⟩) fun r l2 G r0 r3 s1 => ?_⟩
    obtain ⟨j, rfl⟩ : ∃ j : Nat, r = (j : Int) := ⟨r.toNat, by omega⟩
    obtain ⟨x, hx⟩ : ∃ x, as[j]? = some x := ⟨_, List.getElem?_eq_getElem (by omega)⟩
    obtain ⟨y, c, hq, hxt⟩ := hp.get hx
    obtain ⟨yo, c1, c3⟩ := op _ (List.mem_of_getElem? hq)
    have hxG : ∀ {o : HO}, (upd G L o) x = some (.tup [.str y, .int c]) := fun {o} => by
      rw [upd_ne (ne_of_none hxt hL)]; exact s1.F.keep _ _ hxt (M.nm hxt (fun _ z => nomatch z)) (M.nl hxt (fun _ z => nomatch z))
    refine ⟨a, _, (j : Int), .ref x, rfl, rfl, SqT.of (spot hL s1), atI_nat (by rw [List.getElem?_map, hx]; rfl), ?_⟩
    refine ⟨x, _, rfl, .inl (.inl hxG), rfl, _, _, rfl, _, _, rfl, rfl, ?_⟩
    refine ⟨_, rfl, _, _, rfl, rfl, c + 1, rfl, by omega, by omega, fun D2 hD2 => ?_⟩
    have nD2 : D2 ≠ L := fun e => by rw [e, upd_same] at hD2; cases hD2
    have gD2 : G D2 = none := by rw [upd_ne nD2] at hD2; exact hD2
    have hD2H : H D2 = none := s1.F.free gD2
    obtain ⟨od0, e0⟩ : ∃ od0 : Obj, od0 = { cls := .none, data := .plain } := ⟨_, rfl⟩
    have sB := s1.grow (Same.upd (o := .frz od0 (.lst [])) gD2)
    refine lc_range (lo := 0) (n := (c + 1).toNat) (fun i H9 => ∃ (G1 : Hp) (l3 : Addr) (od od2 : Obj) (u u2 : List V) (ns : List Int), H9 = upd (upd G1 D2 (.lst (ns.map V.int))) L (.lst acc) ∧ Stt K H m l L W ws od u l3 (n1 + 1 + 2 * i) acc ds G1 ∧ G1 D2 = some (.frz od2 (.lst u2)) ∧ ns.length = i ∧ ∀ x ∈ ns, 0 ≤ x ∧ x < many)
      ⟨upd G D2 (.frz od0 (.lst [])), l2, od, od0, acc, [], [], by rw [upd_upd, upd_two nD2]; rfl, sB, upd_same, rfl, (fun x h => nomatch h)⟩ ?_ ?_
    · rintro i H9 hi ⟨G1, l3, od1, od2, u1, u2, ns, rfl, s3, g3, ln, hns⟩
      have pnt : ∀ (r : Int) (l4 : Addr) (od od2 : Obj) (G4 : Hp) (n4 : Nat), 0 ≤ r → r < many → n4 ≤ n1 + 1 + 2 * (i + 1) → Stt K H m l L W ws od acc l4 n4 acc ds G4 → G4 D2 = some (.frz od2 (.lst (ns.map V.int))) → ∃ acc', (upd (upd G4 D2 (.lst (ns.map V.int))) L (.lst acc)) D2 = some (.lst acc') ∧ acc'.length < sizeLine ∧
          ∃ (G1 : Hp) (l3 : Addr) (od od2 : Obj) (u u2 : List V) (ms : List Int), upd (upd (upd G4 D2 (.lst (ns.map V.int))) L (.lst acc)) D2 (.lst (acc' ++ [V.int r])) = upd (upd G1 D2 (.lst (ms.map V.int))) L (.lst acc) ∧ Stt K H m l L W ws od u l3 (n1 + 1 + 2 * (i + 1)) acc ds G1 ∧ G1 D2 = some (.frz od2 (.lst u2)) ∧ ms.length = i + 1 ∧ ∀ x ∈ ms, 0 ≤ x ∧ x < many := by
        intro r l4 od od2 G4 n4 q0 q1 qn s4 g4
        refine ⟨ns.map V.int, by rw [upd_ne nD2, upd_same], small1000 (by rw [List.length_map]; omega), G4, l4, od, od2, acc, _, ns ++ [r], ?_, s4.mono qn, g4, by simp [ln], fun x hx => ?_⟩
        · rw [← upd_two nD2, upd_upd, List.map_append]; rfl
        · rcases List.mem_append.mp hx with hx | hx
          · exact hns x hx
          · rw [List.mem_singleton.mp hx]; exact ⟨q0, q1⟩
      refine ⟨rfl, tyes ?_⟩
      delta tIf tTest tOp
      refine lk2_next hL hD2H nD2 s3 g3 (k := 3) (by omega) rfl (by decide) (by decide) (fun _ _ h => h) fun r l4 od4 od5 G4 a4 b4 s4 g4 => ⟨rfl, _, rfl, ite_b (fun _ => ?_) (fun _ => ?_)⟩
      · obtain ⟨acc', e1, e2, G1, l3, odx, ody, ux, uy, nsx, e3, e4, e5, e6, e7⟩ := pnt near l4 od4 od5 G4 _ n0 (by omega) (by omega) s4 g4
        exact ⟨_, rfl, acc', e1, e2, G1, l3, odx, ody, ux, uy, nsx, e3, e4, e5, e6, e7⟩
      · refine ⟨_, rfl, lk2_next hL hD2H nD2 s4 g4 (k := many - low) (by omega) rfl (by omega) (by omega) (fun _ _ h => ⟨_, rfl, _, rfl, _, _, rfl, rfl, h⟩) fun r6 l5 od6 od7 G5 a6 b6 s5 g5 => ⟨low, r6, rfl, rfl, ?_⟩⟩
        obtain ⟨acc', e1, e2, G1, l3, odx, ody, ux, uy, nsx, e3, e4, e5, e6, e7⟩ := pnt (low + r6) l5 od6 od7 G5 _ (by omega) (by omega) (by omega) s5 g5
        exact ⟨acc', e1, e2, G1, l3, odx, ody, ux, uy, nsx, e3, e4, e5, e6, e7⟩
    · rintro H9 ⟨G1, l3, od1, od2, u1, u2, ns, rfl, s3, g3, ln, hns⟩
      refine ⟨_, rfl, .inl ⟨rfl, _, SqL.of upd_same⟩, L, .lst acc, upd_same, trivial, fun od' => ?_⟩
      rw [upd_upd]
      have s4 := (s3.other g3 nD2 hD2H (.lst (ns.map V.int))).relock hL od' acc
      have gd : (upd (upd G1 D2 (.lst (ns.map V.int))) L (.frz od' (.lst acc))) D2 = some (.lst (ns.map V.int)) := by rw [upd_ne nD2, upd_same]
      refine ⟨_, rfl, _, rfl, D2, _, rfl, .inl ⟨SqL.of gd, fun p hp => ?_⟩⟩
      have s5 := s4.grow (Same.upd (o := .tup (ns.map V.int)) hp)
      refine ⟨(by show 3 ≤ sizeLine; decide), fun p2 hp2 => ?_⟩
      have s6 := s5.grow (Same.upd (o := .tup [.str "ask", .str y, .ref p]) hp2)
      have np : p ≠ p2 := fun e => by rw [← e, upd_same] at hp2; cases hp2
      refine ⟨s6.frz, L, acc, _, rfl, rfl, upd_same, small1000 (by omega), ?_⟩
      rw [upd_upd]
      refine nx _ _ _ _ _ _ _ _ _ _ _ _ (s6.more (d := .tuple [.str "ask", .str y, .tuple (ns.map .int)]) ?_) ⟨ask_good yo (fun x hx => ⟨(hns x hx).1, by have := (hns x hx).2; omega⟩) (by omega), .inr (.inr ⟨(y, c), List.mem_of_getElem? hq, ns, rfl, by show (ns.length : Int) = c + 1; omega, hns⟩)⟩ (by omega)
      exact .tup (.inl (.inl upd_same)) (.cons (.str _) (.cons (.str _) (.cons (.tup (.inl (.inl (by rw [upd_ne np, upd_same]))) (ints_dq ns)) .nil)))
  have stIf : ∃ t, PSs (cxOf CX0 P w K mg base NPl "_law_places" (defScope sPlaces) f cdv A outer s H E).nox (bPlaces.drop 2) t ∧ ∀ (Dn : Ends) (Hb : Hp) (L W : Addr) (ws : List Str) (od : Obj) (u acc : List V) (l1 : Addr) (n1 : Nat) (ds : List PyData) (many back ix way near low : Int) (v2 v11 v12 v13 v14 v15 : Option V),
      H L = none → Stt K H m l L W ws od u l1 n1 acc ds Hb → n1 < 800000 → ws.length = 3 → (∀ y ∈ ws, nmOk y) → acc.length ≤ 20 → 0 ≤ near → 0 ≤ low → low ≤ near → near < many → many ≤ 16 →
      (∀ (v11 v12 v13 v14 v15 : Option V) (od : Obj) (u : List V) (l2 : Addr) (n2 : Nat) (v : V) (d : PyData) (G : Hp), Stt K H m l L W ws od u l2 n2 (acc ++ [v]) (ds ++ [d]) G → PlG qs many d → n2 ≤ n1 + 10 →
        Dn.nx [some (.ref m), some (.ref a), v2, some (.int many), some (.ref W), some (.ref L), some (.int back), some (.int ix), some (.int way), some (.int near), some (.int low), v11, v12, v13, v14, v15] (upd G L (.lst (acc ++ [v])))) →
      t Dn [some (.ref m), some (.ref a), v2, some (.int many), some (.ref W), some (.ref L), some (.int back), some (.int ix), some (.int way), some (.int near), some (.int low), v11, v12, v13, v14, v15] (upd Hb L (.lst acc)) := by
    obtain ⟨tE, dE, zE⟩ := stE
    obtain ⟨tD, dD, zD⟩ := stD
    obtain ⟨tA, dA, zA⟩ := stA
    refine ⟨_, pss_one (ps_if (PW.pt (pw_or (pt_cmpR op_eq (pv 8) pe_int (nomark _)) (pw_or1 (PW.pt (pw_and (pt_cmpR op_eq (pv 7) (pe_op op_sub (pv 3) pe_int) (nomark _)) (pw_and1 (PW.pt (pw_or (pt_cmpR op_eq (pv 6) pe_int (nomark _)) (pw_or1 (pt_cmpR op_gt (pe_lock (pe_call GN hr (by rfl) T.next FN.kp bN .nil pass0 (pa_cons (pv 0) (pa_cons pe_int pa_nil)))) pe_int (nomark _))))))))))) dE (pss_one (ps_if (pt_cmpR op_lt (pv 8) pe_int (nomark _)) dD dA))), ?_⟩
    intro Dn Hb L W ws od u acc l1 n1 ds many back ix way near low v2 v11 v12 v13 v14 v15 hL S hn1 wl wok al n0 lo0 lon nm m16 nx
    have rest : ∀ (od : Obj) (u : List V) (l2 : Addr) (n2 : Nat) (G : Hp), Stt K H m l L W ws od u l2 n2 acc ds G → n2 ≤ n1 + 1 → tIfS (tTest (tOp (rI0 fun i j => V.bl (decide (i < j))) (tVar 8) (tC (V.int 4)))) tD tA Dn [some (.ref m), some (.ref a), v2, some (.int many), some (.ref W), some (.ref L), some (.int back), some (.int ix), some (.int way), some (.int near), some (.int low), v11, v12, v13, v14, v15] (upd G L (.lst acc)) := by
      intro od u l2 n2 G S2 h2
      refine ⟨_, rfl, _, _, rfl, rfl, _, rfl, ite_b (fun _ => ?_) (fun _ => ?_)⟩
      · exact zD Dn G L W ws od u acc l2 n2 ds many back ix way near low v2 v11 v12 v13 v14 v15 hL S2 (by omega) wl wok al n0 lo0 lon nm m16 fun v11 v12 v13 v14 v15 od u l3 n3 v d G s g h => nx v11 v12 v13 v14 v15 od u l3 n3 v d G s g (by omega)
      · exact zA Dn G L W ws od u acc l2 n2 ds many back ix way near low v2 v11 v12 v13 v14 v15 hL S2 (by omega) wl wok al n0 lo0 lon nm m16 fun v11 v12 v13 v14 v15 od u l3 n3 v d G s g h => nx v11 v12 v13 v14 v15 od u l3 n3 v d G s g (by omega)
    have endd : ∀ (od : Obj) (u : List V) (l2 : Addr) (n2 : Nat) (G : Hp), Stt K H m l L W ws od u l2 n2 acc ds G → n2 ≤ n1 + 1 → tE Dn [some (.ref m), some (.ref a), v2, some (.int many), some (.ref W), some (.ref L), some (.int back), some (.int ix), some (.int way), some (.int near), some (.int low), v11, v12, v13, v14, v15] (upd G L (.lst acc)) := fun od u l2 n2 G S2 h2 =>
      zE Dn G L W ws od u acc l2 n2 ds many back ix way near low v2 v11 v12 v13 v14 v15 hL S2 (by omega) wl wok al n0 lo0 lon nm m16 fun v11 v12 v13 v14 v15 od u l3 n3 v d G s g h => nx v11 v12 v13 v14 v15 od u l3 n3 v d G s g (by omega)
    refine ⟨_, rfl, rfl, _, rfl, ite_b (fun _ => ifT rfl (endd _ _ _ _ _ S (by omega))) (fun _ => ?_)⟩
    refine ⟨_, rfl, _, rfl, _, _, rfl, rfl, rfl, _, rfl, ite_b (fun _ => ?_) (fun _ => ifF rfl (rest _ _ _ _ _ S (by omega)))⟩
    refine ⟨_, rfl, rfl, _, rfl, ite_b (fun _ => ifT rfl (endd _ _ _ _ _ S (by omega))) (fun _ => ?_)⟩
    delta tTest tOp
    refine lk_next (k := 4) hL S (by omega) rfl (by decide) (by decide) (fun _ _ h => h) fun r l2 G r0 r3 s1 => ⟨_, _, rfl, rfl, _, rfl, ?_⟩
    by_cases e : (0 : Int) < r
    · exact ifT (decide_eq_true e) (endd _ _ _ _ _ s1 (Nat.le_refl _))
    · exact ifF (decide_eq_false e) (rest _ _ _ _ _ s1 (Nat.le_refl _))
  have stB : ∃ t, PSs (cxOf CX0 P w K mg base NPl "_law_places" (defScope sPlaces) f cdv A outer s H E).nox bPlaces t ∧ ∀ (Dn : Ends) (Hb : Hp) (L W : Addr) (ws : List Str) (od : Obj) (u acc : List V) (l1 : Addr) (n1 : Nat) (ds : List PyData) (many back ix : Int) (v2 v8 v9 v10 v11 v12 v13 v14 v15 : Option V),
      H L = none → Stt K H m l L W ws od u l1 n1 acc ds Hb → n1 < 700000 → ws.length = 3 → (∀ y ∈ ws, nmOk y) → acc.length ≤ 20 → 0 ≤ ix → ix < many → many ≤ 16 → (back = 0 ∨ back = 1) →
      (∀ (v8b v9b v10b v11b v12b v13b v14b v15b : Option V) (od : Obj) (u : List V) (l2 : Addr) (n2 : Nat) (v : V) (d : PyData) (G : Hp), Stt K H m l L W ws od u l2 n2 (acc ++ [v]) (ds ++ [d]) G → PlG qs many d → n2 ≤ n1 + 11 →
        Dn.nx [some (.ref m), some (.ref a), v2, some (.int many), some (.ref W), some (.ref L), some (.int back), some (.int ix), v8b, v9b, v10b, v11b, v12b, v13b, v14b, v15b] (upd G L (.lst (acc ++ [v])))) →
      t Dn [some (.ref m), some (.ref a), v2, some (.int many), some (.ref W), some (.ref L), some (.int back), some (.int ix), v8, v9, v10, v11, v12, v13, v14, v15] (upd Hb L (.lst acc)) := by
    obtain ⟨tI, dI, zI⟩ := stIf
    refine ⟨_, pss_cons (ps_asg (pe_lock (pe_tup (pa_cons (pe_call GN hr (by rfl) T.next FN.kp bN .nil pass0 (pa_cons (pv 0) (pa_cons pe_int pa_nil))) (pa_cons (pe_callB (call_min2 rfl) (by rfl) T.min (by decide +kernel) (pa_cons (pe_op op_add (pv 7) pe_int) (pa_cons (pe_op op_sub (pv 3) pe_int) pa_nil))) pa_nil)))) (pg_tup rfl (pgs_cons (pg_name (i := 8) scPc.nd rfl (by first | exact Or.inl rfl | exact Or.inr rfl)) (pgs_cons (pg_name (i := 9) scPc.nd rfl (by first | exact Or.inl rfl | exact Or.inr rfl)) pgs_nil))))
      (pss_cons (ps_set (i := 10) scPc.nd rfl (by first | exact Or.inl rfl | exact Or.inr rfl) (pe_op op_mul (pv 9) (pe_op op_sub pe_int (pv 6)))) dI), ?_⟩
    intro Dn Hb L W ws od u acc l1 n1 ds many back ix v2 v8 v9 v10 v11 v12 v13 v14 v15 hL S hn1 wl wok al i0 im m16 hb nx
    refine ⟨L, .lst acc, upd_same, trivial, fun od' => ?_⟩
    rw [upd_upd]
    have s1 := S.relock hL od' acc
    refine ⟨_, rfl, m, l1, n1, 7, rfl, s1.M, by omega, by decide, by decide, fun r l2 G r0 r7 M2 f2 => ?_⟩
    have s2 := s1.step M2 f2
    refine ⟨_, rfl, _, _, rfl, rfl, _, rfl, _, _, rfl, rfl, ix + 1, many - 1, rfl, (by show 2 ≤ sizeLine; decide), fun p hp => ?_⟩
    obtain ⟨near, hne⟩ : ∃ near : Int, near = if many - 1 < ix + 1 then many - 1 else ix + 1 := ⟨_, rfl⟩
    rw [← hne]
    have nb : 0 ≤ near ∧ near < many := by rw [hne]; split <;> omega
    have s3 := s2.grow (Same.upd (o := .tup [.int r, .int near]) hp)
    have gp : (upd (upd G p (.tup [.int r, .int near])) L (.lst acc)) p = some (.tup [.int r, .int near]) := by
      rw [upd_ne (fun e => by rw [e] at hp; exact absurd (s2.frz.symm.trans hp) (fun z => nomatch z)), upd_same]
    refine ⟨s3.frz, p, _, rfl, .inl (.inl gp), rfl, _, _, rfl, _, _, rfl, rfl, ?_⟩
    refine ⟨_, rfl, _, rfl, _, _, rfl, rfl, _, _, rfl, rfl, .inl ⟨by omega, by omega⟩, ?_⟩
    have lb : 0 ≤ near * (1 - back) ∧ near * (1 - back) ≤ near := by
      rcases hb with rfl | rfl
      · rw [show near * (1 - 0) = near by omega]; omega
      · rw [show near * (1 - 1) = 0 by omega]; omega
    refine zI Dn _ L W ws od' acc acc l2 (n1 + 1) ds many back ix r near (near * (1 - back)) v2 _ _ _ _ _ hL s3 (by omega) wl wok al nb.1 lb.1 lb.2 nb.2 m16 fun _ _ _ _ _ od u l3 n3 v d G s g h => nx _ _ _ _ _ _ _ _ _ _ _ _ _ _ _ s g (by omega)
  obtain ⟨tB, dB, zB⟩ := stB
  refine ⟨_, pss_cons (ps_asg (pe_tup (pa_cons (pe_op op_add pe_int (pe_call GN hr (by rfl) T.next FN.kp bN .nil pass0 (pa_cons (pv 0) (pa_cons (pv 2) pa_nil)))) (pa_cons (pe_call GM hr (by rfl) T.names FM.kp bM .nil pass0 (pa_cons (pv 0) (pa_cons pe_int pa_nil))) pa_nil))) (pg_tup rfl (pgs_cons (pg_name (i := 3) scPc.nd rfl (by first | exact Or.inl rfl | exact Or.inr rfl)) (pgs_cons (pg_name (i := 4) scPc.nd rfl (by first | exact Or.inl rfl | exact Or.inr rfl)) pgs_nil))))
    (pss_cons (ps_par (i := 5) (j := 6) (by rfl) scPc.nd rfl rfl (by decide) rfl rfl (pa_cons (pe_lst pa_nil) (pa_cons (pe_lock (pe_call GN hr (by rfl) T.next FN.kp bN .nil pass0 (pa_cons (pv 0) (pa_cons pe_int pa_nil)))) pa_nil)) (by rfl))
    (pss_cons (ps_for PassesOwn.never rfl (pi_range1 (by rfl) T.range (pa_cons (pv 3) pa_nil)) (pg_name (i := 7) scPc.nd rfl (by first | exact Or.inl rfl | exact Or.inr rfl)) dB)
    (pss_one (ps_ret (pe_callTy call_tuple_of (by rfl) T.tuple (by decide +kernel) (pa_cons (pv 5) pa_nil)))))), ?_⟩
  refine ⟨_, rfl, _, rfl, m, l, n, (k : Int), rfl, M, by omega, by omega, by omega, fun r l1 H1 r0 r1 M1 f1 => ⟨1, r, rfl, rfl, ?_⟩⟩
  refine ⟨_, rfl, m, l1, n + 1, 3, rfl, M1, by omega, by decide, by decide, fun W ws l2 H2 hW gW wl wn wok nm nl M2 f2 => ?_⟩
  refine ⟨(by show 2 ≤ sizeLine; decide), fun p3 h3 => ⟨p3, _, rfl, .inl (.inl upd_same), rfl, _, _, rfl, _, _, rfl, rfl, ?_⟩⟩
  obtain ⟨G3, e3⟩ : ∃ G3, G3 = upd H2 p3 (.tup [.int (1 + r), .ref W]) := ⟨_, rfl⟩
  have s3 : Same H2 G3 := e3 ▸ Same.upd h3
  have F3 : Fr m l l2 H G3 := e3 ▸ (f1.trans f2).junk h3
  rw [← e3]
  refine ⟨(by show 0 ≤ sizeLine; decide), fun L hL => ?_⟩
  have hLH : H L = none := F3.free hL
  obtain ⟨od0, e0⟩ : ∃ od0 : Obj, od0 = { cls := .none, data := .plain } := ⟨_, rfl⟩
  have s0 : Stt K H m l L W ws od0 [] l2 (n + 1 + 11) [] [] (upd G3 L (.frz od0 (.lst []))) :=
    ⟨upd_same, (M2.same s3).same (Same.upd hL), F3.junk hL, (Same.upd hL) _ _ (s3 _ _ gW), nl, .nil⟩
  have e4 : upd G3 L (.lst []) = upd (upd G3 L (.frz od0 (.lst []))) L (.lst []) := (upd_upd ..).symm
  rw [e4]
  refine lk_next (k := 2) hLH s0 (by omega) rfl (by decide) (by decide) (fun _ _ h => h) fun r2 l3 G4 a2 b2 s4 => ?_
  refine ⟨_, _, rfl, ?_⟩
  refine ⟨_, rfl, _, rfl, by omega, by omega, ?_⟩
  refine for_range (lo := 0) (n := (1 + r).toNat) (fun i σ H2 => ∃ (G : Hp) (l2 : Addr) (od : Obj) (u acc : List V) (n2 : Nat) (ds : List PyData) (v7 v8 v9 v10 v11 v12 v13 v14 v15 : Option V), σ = [some (.ref m), some (.ref a), some (.int (k : Int)), some (.int (1 + r)), some (.ref W), some (.ref L), some (.int r2), v7, v8, v9, v10, v11, v12, v13, v14, v15] ∧ H2 = upd G L (.lst acc) ∧
      Stt K H m l L W ws od u l2 n2 acc ds G ∧ n2 ≤ n + 13 + 11 * i ∧ acc.length = i ∧ Gl' big (461 * i) 2 ds ∧ ∀ d ∈ ds, plD qs (1 + r) d)
    ⟨_, l3, _, _, [], _, [], _, _, _, _, _, _, _, _, _, rfl, rfl, s4, by omega, rfl, ⟨(fun d h => nomatch h), Nat.le_refl _, (fun d h => nomatch h)⟩, (fun d h => nomatch h)⟩ ?_ ?_
  · rintro i σ H2 hi ⟨G, l4, od, u, acc, n2, ds, v7, v8, v9, v10, v11, v12, v13, v14, v15, rfl, rfl, s6, h6, al, gl, pd⟩
    refine zB _ G L W ws od u acc l4 n2 ds (1 + r) r2 (0 + (i : Int)) _ v8 v9 v10 v11 v12 v13 v14 v15 hLH s6 (by omega) wl (fun y hy => wok y hy) (by omega) (by omega) (by omega) (by omega) (by omega) ?_
    intro v8 v9 v10 v11 v12 v13 v14 v15 od u l5 n5 v d G5 s7 gd h7
    exact ⟨G5, l5, od, u, _, n5, _, _, v8, v9, v10, v11, v12, v13, v14, v15, rfl, rfl, s7, by omega, by simp [al], (gl.app (Gl'.one gd.1)).mono (Nat.le_refl _) (by omega) (Nat.le_refl _), fun d' hd' => (List.mem_append.mp hd').elim (pd d') (fun h => by rw [List.mem_singleton.mp h]; exact gd.2)⟩
  · rintro σ H2 ⟨G, l4, od, u, acc, n2, ds, v7, v8, v9, v10, v11, v12, v13, v14, v15, rfl, rfl, s6, h6, al, gl, pd⟩
    refine ⟨_, rfl, L, acc, rfl, .inl ⟨SqL.of upd_same, fun p hp => ?_⟩⟩
    have sp : Same (upd G L (.lst acc)) (upd (upd G L (.lst acc)) p (.tup acc)) := Same.upd hp
    have ld := s6.it.len
    have ed : (1 + r : Int) = (ds.length : Int) := by omega
    have pd' : ∀ d ∈ ds, plD qs (ds.length : Int) d := fun d hd => by rw [← ed]; exact pd d hd
    exact q p acc ds l4 _ upd_same (DqAll.same sp _ _ (DqAll.unlock s6.frz s6.it)) ((Gd.tup gl).mono (Nat.le_refl _) (by omega) (Nat.le_refl _)) (by omega) (by omega) pd' (((Mch.unlock s6.frz s6.M).same sp).mono (by omega)) ((s6.F.relock hLH).junk hp)
theorem ok_places {f : Addr} {fd fdN fdM : FuncData} (F : Fun K "_law_places" "_law_places" sPlaces f fd) (T : TxtL mg fN fM) (FN : Fun K "_law_next" "_law_next" sNext fN fdN) (bN : Binds K fdN ["m", "many"] [])
    (FM : Fun K "_law_names" "_law_names" sNames fM fdM) (bM : Binds K fdM ["m", "many"] []) : FnOk P w K mg base CX0 3 f fd ["m", "spots", "most"] (spPlaces K) := by
  have G : FnOk P w K mg base CX0 3 f fd ["m", "spots", "most"] (spPlacesV K) := ok_placesV F T FN bN FM bM
  have imp : ∀ vs H Q E, spPlaces K vs H Q E → spPlacesV K vs H Q E := fun vs H Q E h => by
    obtain ⟨m, l, a, n, as, qs, k, h1, h2, h3, h4, h5, h6, h7, h8, h9, h10, q⟩ := h
    exact ⟨m, l, a, n, as, qs, k, h1, h2, h3, h4, h5, h6, h7, h8, h9, h10, fun p xs ds l' H' a1 a2 a3 a4 a5 _ a7 a8 => q p xs ds l' H' a1 a2 a3 a4 a5 a7 a8⟩
  exact ⟨fun vs H Q E h => G.len vs H Q E (imp vs H Q E h), fun A outer s H args us vs Q E hr e0 hb r h => G.run A outer s H args us vs Q E hr e0 hb r (imp vs H Q E h)⟩
end
end Ms
namespace Ms
open PySem PySem.Spec PyProof.Rows L2
/-! ### _law_modes -/
abbrev NMd : List Str := ["m", "spots", "spot"]
theorem scMd : FnScope NMd ["m", "spots"] (defScope sModes) := ⟨rfl, rfl, rfl, by decide +kernel, rfl, by decide +kernel, by decide +kernel⟩
def spModes (K : PySem.W.Frag) : Sp := fun vs H Q _ => ∃ (m l a : Addr) (n : Nat) (as : List Addr), vs = [.ref m, .ref a] ∧ Mch H m l n ∧ n < 600000 ∧ H a = some (.tup (as.map V.ref)) ∧ as.length ≤ 3 ∧
  ∀ (p : Addr) (zs : List Str) (l' : Addr) (H' : Hp), H' p = some (.tup (zs.map V.str)) → zs.length = as.length → (∀ z ∈ zs, z ∈ (["live", "met", "begin"] : List Str)) → Mch H' m l' (n + 3) → Fr m l l' H H' → Q (.ref p) H'
theorem md_at {r : Int} (h0 : 0 ≤ r) (h1 : r < 4) : ∃ z : Str, atI ([.str "live", .str "live", .str "met", .str "begin"] : List V) r = some (.str z) ∧ z ∈ (["live", "met", "begin"] : List Str) := by
  obtain ⟨j, rfl⟩ : ∃ j : Nat, r = (j : Int) := ⟨r.toNat, by omega⟩
  have hj : j < 4 := by omega
  match j, hj with
  | 0, _ => exact ⟨"live", rfl, by decide⟩
  | 1, _ => exact ⟨"live", rfl, by decide⟩
  | 2, _ => exact ⟨"met", rfl, by decide⟩
  | 3, _ => exact ⟨"begin", rfl, by decide⟩
section
variable {P : Program} {w : World} {K : PySem.W.Frag} {mg : Str → Option Value} {base : Heap} {fN fM : Addr}
theorem ok_modes {f : Addr} {fd fdN : FuncData} (F : Fun K "_law_modes" "_law_modes" sModes f fd) (T : TxtS mg fN fM) (FN : Fun K "_law_next" "_law_next" sNext fN fdN) (bN : Binds K fdN ["m", "many"] []) : FnOk P w K mg base CX0 2 f fd ["m", "spots"] (spModes K) := by
  have GN : FnOk P w K mg base CX0 1 fN fdN ["m", "many"] spNext := ok_next FN T.toTxt
  refine F.ok scMd (fun vs H Q E h => ?_) (fun cdv A outer s H vs Q E hr h => ?_)
  · obtain ⟨m, l, a, n, as, rfl, _⟩ := h
    rfl
  obtain ⟨m, l, a, n, as, rfl, M, hn, ha, h3, q⟩ := h
  refine ⟨_, pss_one (ps_ret (pe_callTy call_tuple_of (by rfl) T.tuple (by decide +kernel) (pa_cons (pe_lc (own := [("spot", 2)]) (g := gName 2) (by rfl) scMd.nd (pi_tup (pv 1)) (blkOk_by (own := [("spot", 2)]) (N := NMd) (sc := defScope sModes) (by decide +kernel))
    (fun _ _ _ _ _ => pg_name (i := 2) scMd.nd rfl (by first | exact Or.inl rfl | exact Or.inr rfl)) (fun _ _ _ _ _ => pts_nil) (fun _ _ _ _ _ => pe_lock (pe_ix (show IxR _ (rIxL K) from ix_list) (pe_lst (pa_cons pe_str (pa_cons pe_str (pa_cons pe_str (pa_cons pe_str pa_nil))))) (pe_call GN hr (by rfl) T.next FN.kp bN .nil pass0 (pa_cons (pv 0) (pa_cons pe_int pa_nil))) (fun _ _ => rfl)))) pa_nil))), ?_⟩
  refine ⟨_, rfl, a, rfl, ⟨_, SqT.of ha⟩, fun D hD => ?_⟩
  have aM := M.nm ha (fun _ z => nomatch z)
  have aL := M.nl ha (fun _ z => nomatch z)
  have nD := M.ne hD
  obtain ⟨od0, e0⟩ : ∃ od0 : Obj, od0 = { cls := .none, data := .plain } := ⟨_, rfl⟩
  refine lc_it (walk_tup (xs := as.map V.ref)) (fun i H3 => ∃ (Hb : Hp) (od : Obj) (u : List V) (zs : List Str) (l2 : Addr), H3 = upd Hb D (.lst (zs.map V.str)) ∧ Hb D = some (.frz od (.lst u)) ∧ Mch Hb m l2 (n + i) ∧ Fr m l l2 H Hb ∧ zs.length = i ∧ ∀ z ∈ zs, z ∈ (["live", "met", "begin"] : List Str))
    ⟨upd H D (.frz od0 (.lst [])), od0, [], [], l, by rw [upd_upd]; rfl, upd_same, M.same (Same.upd hD), (Fr.refl M).junk hD, rfl, (fun z h => nomatch h)⟩ (fun i H3 _ ⟨Hb, od, u, zs, l2, e3, g, M3, f3, _⟩ => SqT.of (by rw [e3, upd_ne (ne_of_none ha hD)]; exact f3.keep _ _ ha aM aL)) ?_ ?_
  · rintro i x H3 H4 hi ⟨Hb, od, u, zs, l2, rfl, g, M3, f3, zl, zo⟩ ⟨rfl, hx⟩
    rw [List.length_map] at hi
    refine ⟨rfl, tyes ⟨D, .lst (zs.map V.str), upd_same, trivial, fun od' => ?_⟩⟩
    rw [upd_upd]
    have M4 : Mch (upd Hb D (.frz od' (.lst (zs.map V.str)))) m l2 (n + i) := Mch.unlock g M3
    have f4 := f3.relock (o := .frz od' (.lst (zs.map V.str))) hD
    refine ⟨(by show 4 ≤ sizeLine; decide), fun p hp => ?_⟩
    have sp : Same (upd Hb D (.frz od' (.lst (zs.map V.str)))) (upd (upd Hb D (.frz od' (.lst (zs.map V.str)))) p (.lst [.str "live", .str "live", .str "met", .str "begin"])) := Same.upd hp
    have np := M4.ne hp
    refine ⟨_, rfl, m, l2, n + i, 4, rfl, M4.same sp, by omega, by decide, by decide, fun r l5 H5 r0 r4 M5 f5 => ?_⟩
    obtain ⟨z, hz, zk⟩ := md_at r0 r4
    have g5 : H5 D = some (.frz od' (.lst (zs.map V.str))) := f5.keep _ _ (sp _ _ upd_same) (M4.nm upd_same (fun _ z => nomatch z)) (M4.nl upd_same (fun _ z => nomatch z))
    refine ⟨p, _, r, .str z, rfl, rfl, SqL.of (f5.keep _ _ upd_same np.1 np.2), hz, g5, zs.map V.str, upd_same, small1000 (by rw [List.length_map]; omega), H5, od', _, zs ++ [z], l5, ?_, g5, M5, f4.trans (Fr.lead sp f5), by simp [zl], fun y hy => ?_⟩
    · rw [upd_upd, List.map_append]; rfl
    · rcases List.mem_append.mp hy with hy | hy
      · exact zo y hy
      · rw [List.mem_singleton.mp hy]; exact zk
  · rintro H3 ⟨Hb, od, u, zs, l2, rfl, g, M3, f3, zl, zo⟩
    rw [List.length_map] at zl M3
    refine ⟨D, _, rfl, .inl ⟨SqL.of upd_same, fun p hp => ?_⟩⟩
    have sp : Same (upd Hb D (.lst (zs.map V.str))) (upd (upd Hb D (.lst (zs.map V.str))) p (.tup (zs.map V.str))) := Same.upd hp
    exact q p zs l2 _ upd_same zl zo (((Mch.unlock g M3).same sp).mono (by omega)) ((f3.relock hD).junk hp)
end
end Ms
namespace Ms
open PySem PySem.Spec PyProof.Rows L2
/-! ### _law_odd -/
def odds : List PyData := [.none, .int 0, .int 1, .int 2, .int 4, .int (-1), .int 100, .bool true, .bool false, .str "", .str "a", .str "abcdefghi", .str "A", .str "end", .str "live", .tuple [], .tuple [.tuple []], .tuple [.str "a", .int 1], .list [], .dict [], .int (10 ^ (30 : Int).toNat), .tuple [.str "end"], .tuple [.tuple [.str "end"]], .str "begin", .str "a1", .tuple [.str "do", .str "a", .int 0]]
theorem odds_good : odds.all (gdB big 128 2) = true := by decide +kernel
section
variable {P : Program} {w : World} {K : PySem.W.Frag} {mg : Str → Option Value} {base : Heap} {fN fM : Addr}
theorem scOd : FnScope ["m", "some"] ["m"] (defScope sOdd) := ⟨rfl, rfl, rfl, by decide +kernel, rfl, by decide +kernel, by decide +kernel⟩
def spOdd (K : PySem.W.Frag) : Sp := fun vs H Q _ => ∃ (m l : Addr) (n : Nat), vs = [.ref m] ∧ Mch H m l n ∧ n < 900000 ∧
  ∀ (v : V) (d : PyData) (l' : Addr) (H' : Hp), Dq K H' m l' v d → Gd big 128 2 d → Mch H' m l' (n + 1) → Fr m l l' H H' → Q v H'
theorem ok_odd {f : Addr} {fd fdN : FuncData} (F : Fun K "_law_odd" "_law_odd" sOdd f fd) (T : TxtS mg fN fM) (FN : Fun K "_law_next" "_law_next" sNext fN fdN) (bN : Binds K fdN ["m", "many"] []) : FnOk P w K mg base CX0 2 f fd ["m"] (spOdd K) := by
  have GN : FnOk P w K mg base CX0 1 fN fdN ["m", "many"] spNext := ok_next FN T.toTxt
  refine F.ok scOd (fun vs H Q E h => ?_) (fun cdv A outer s H vs Q E hr h => ?_)
  · obtain ⟨m, l, n, rfl, _⟩ := h
    rfl
  · obtain ⟨m, l, n, rfl, M, hn, q⟩ := h
    refine ⟨_, pss_cons (ps_set (i := 1) scOd.nd rfl (by first | exact Or.inl rfl | exact Or.inr rfl) (pe_lst (pa_cons pe_non (pa_cons pe_int (pa_cons pe_int (pa_cons pe_int (pa_cons pe_int (pa_cons (pe_un un_neg pe_int) (pa_cons pe_int (pa_cons pe_bl (pa_cons pe_bl (pa_cons pe_str (pa_cons pe_str (pa_cons pe_str (pa_cons pe_str (pa_cons pe_str (pa_cons pe_str (pa_cons (pe_tup pa_nil) (pa_cons (pe_tup (pa_cons (pe_tup pa_nil) pa_nil)) (pa_cons (pe_tup (pa_cons pe_str (pa_cons pe_int pa_nil))) pa_nil))))))))))))))))))))
      (pss_one (ps_ret (pe_ix ix_list (pe_op op_cat (pv 1) (pe_lst (pa_cons (pe_lst pa_nil) (pa_cons pe_dnewK (pa_cons (pe_op op_pow pe_int pe_int) (pa_cons (pe_tup (pa_cons pe_str pa_nil)) (pa_cons (pe_tup (pa_cons (pe_tup (pa_cons pe_str pa_nil)) pa_nil)) (pa_cons pe_str (pa_cons pe_str (pa_cons (pe_tup (pa_cons pe_str (pa_cons pe_str (pa_cons pe_int pa_nil)))) pa_nil))))))))))
        (pe_call GN hr rfl T.next FN.kp bN .nil pass0 (pa_cons (pv 0) (pa_cons pe_int pa_nil))) (fun _ _ => rfl)))), ?_⟩
    refine ⟨_, rfl, ?_⟩
    refine ⟨Nat.zero_le _, fun p1 hp1 => ?_⟩
    obtain ⟨G1, e1⟩ : ∃ G, G = upd H p1 (.tup []) := ⟨_, rfl⟩
    rw [← e1]
    have s : Same H G1 := e1 ▸ Same.upd hp1
    have np1 := M.ne hp1
    have M1 := M.same s
    have f1 : Fr m l l H G1 := e1 ▸ (Fr.refl M).junk hp1
    have kp1 : G1 p1 = some (.tup []) := by rw [e1, upd_same]
    clear s e1
    refine ⟨Nat.zero_le _, fun p2 hp2 => ?_⟩
    obtain ⟨G2, e2⟩ : ∃ G, G = upd G1 p2 (.tup []) := ⟨_, rfl⟩
    rw [← e2]
    have s : Same G1 G2 := e2 ▸ Same.upd hp2
    have np2 := M1.ne hp2
    have M2 := M1.same s
    have f2 : Fr m l l H G2 := e2 ▸ f1.junk hp2
    replace kp1 := s _ _ kp1
    have kp2 : G2 p2 = some (.tup []) := by rw [e2, upd_same]
    clear s e2
    refine ⟨(by show 1 ≤ sizeLine; decide), fun p3 hp3 => ?_⟩
    obtain ⟨G3, e3⟩ : ∃ G, G = upd G2 p3 (.tup [.ref p2]) := ⟨_, rfl⟩
    rw [← e3]
    have s : Same G2 G3 := e3 ▸ Same.upd hp3
    have np3 := M2.ne hp3
    have M3 := M2.same s
    have f3 : Fr m l l H G3 := e3 ▸ f2.junk hp3
    replace kp1 := s _ _ kp1
    replace kp2 := s _ _ kp2
    have kp3 : G3 p3 = some (.tup [.ref p2]) := by rw [e3, upd_same]
    clear s e3
    refine ⟨(by show 2 ≤ sizeLine; decide), fun p4 hp4 => ?_⟩
    obtain ⟨G4, e4⟩ : ∃ G, G = upd G3 p4 (.tup [.str "a", .int 1]) := ⟨_, rfl⟩
    rw [← e4]
    have s : Same G3 G4 := e4 ▸ Same.upd hp4
    have np4 := M3.ne hp4
    have M4 := M3.same s
    have f4 : Fr m l l H G4 := e4 ▸ f3.junk hp4
    replace kp1 := s _ _ kp1
    replace kp2 := s _ _ kp2
    replace kp3 := s _ _ kp3
    have kp4 : G4 p4 = some (.tup [.str "a", .int 1]) := by rw [e4, upd_same]
    clear s e4
    refine ⟨(by show 18 ≤ sizeLine; decide), fun L1 hL1 => ?_⟩
    obtain ⟨G5, e5⟩ : ∃ G, G = upd G4 L1 (.lst [.non, .int 0, .int 1, .int 2, .int 4, .int (-1), .int 100, .bl true, .bl false, .str "", .str "a", .str "abcdefghi", .str "A", .str "end", .str "live", .ref p1, .ref p3, .ref p4]) := ⟨_, rfl⟩
    rw [← e5]
    have s : Same G4 G5 := e5 ▸ Same.upd hL1
    have nL1 := M4.ne hL1
    have M5 := M4.same s
    have f5 : Fr m l l H G5 := e5 ▸ f4.junk hL1
    replace kp1 := s _ _ kp1
    replace kp2 := s _ _ kp2
    replace kp3 := s _ _ kp3
    replace kp4 := s _ _ kp4
    have kL1 : G5 L1 = some (.lst [.non, .int 0, .int 1, .int 2, .int 4, .int (-1), .int 100, .bl true, .bl false, .str "", .str "a", .str "abcdefghi", .str "A", .str "end", .str "live", .ref p1, .ref p3, .ref p4]) := by rw [e5, upd_same]
    clear s e5
    refine ⟨_, rfl, ?_⟩
    refine ⟨Nat.zero_le _, fun p5 hp5 => ?_⟩
    obtain ⟨G6, e6⟩ : ∃ G, G = upd G5 p5 (.lst []) := ⟨_, rfl⟩
    rw [← e6]
    have s : Same G5 G6 := e6 ▸ Same.upd hp5
    have np5 := M5.ne hp5
    have M6 := M5.same s
    have f6 : Fr m l l H G6 := e6 ▸ f5.junk hp5
    replace kp1 := s _ _ kp1
    replace kp2 := s _ _ kp2
    replace kp3 := s _ _ kp3
    replace kp4 := s _ _ kp4
    replace kL1 := s _ _ kL1
    have kp5 : G6 p5 = some (.lst []) := by rw [e6, upd_same]
    clear s e6
    intro p6 hp6
    obtain ⟨G7, e7⟩ : ∃ G, G = upd G6 p6 (.dK []) := ⟨_, rfl⟩
    rw [← e7]
    have s : Same G6 G7 := e7 ▸ Same.upd hp6
    have np6 := M6.ne hp6
    have M7 := M6.same s
    have f7 : Fr m l l H G7 := e7 ▸ f6.junk hp6
    replace kp1 := s _ _ kp1
    replace kp2 := s _ _ kp2
    replace kp3 := s _ _ kp3
    replace kp4 := s _ _ kp4
    replace kL1 := s _ _ kL1
    replace kp5 := s _ _ kp5
    have kp6 : G7 p6 = some (.dK []) := by rw [e7, upd_same]
    clear s e7
    refine ⟨_, _, rfl, rfl, ⟨by decide, by decide, by decide⟩, ?_⟩
    refine ⟨(by show 1 ≤ sizeLine; decide), fun p7 hp7 => ?_⟩
    obtain ⟨G8, e8⟩ : ∃ G, G = upd G7 p7 (.tup [.str "end"]) := ⟨_, rfl⟩
    rw [← e8]
    have s : Same G7 G8 := e8 ▸ Same.upd hp7
    have np7 := M7.ne hp7
    have M8 := M7.same s
    have f8 : Fr m l l H G8 := e8 ▸ f7.junk hp7
    replace kp1 := s _ _ kp1
    replace kp2 := s _ _ kp2
    replace kp3 := s _ _ kp3
    replace kp4 := s _ _ kp4
    replace kL1 := s _ _ kL1
    replace kp5 := s _ _ kp5
    replace kp6 := s _ _ kp6
    have kp7 : G8 p7 = some (.tup [.str "end"]) := by rw [e8, upd_same]
    clear s e8
    refine ⟨(by show 1 ≤ sizeLine; decide), fun p8 hp8 => ?_⟩
    obtain ⟨G9, e9⟩ : ∃ G, G = upd G8 p8 (.tup [.str "end"]) := ⟨_, rfl⟩
    rw [← e9]
    have s : Same G8 G9 := e9 ▸ Same.upd hp8
    have np8 := M8.ne hp8
    have M9 := M8.same s
    have f9 : Fr m l l H G9 := e9 ▸ f8.junk hp8
    replace kp1 := s _ _ kp1
    replace kp2 := s _ _ kp2
    replace kp3 := s _ _ kp3
    replace kp4 := s _ _ kp4
    replace kL1 := s _ _ kL1
    replace kp5 := s _ _ kp5
    replace kp6 := s _ _ kp6
    replace kp7 := s _ _ kp7
    have kp8 : G9 p8 = some (.tup [.str "end"]) := by rw [e9, upd_same]
    clear s e9
    refine ⟨(by show 1 ≤ sizeLine; decide), fun p9 hp9 => ?_⟩
    obtain ⟨G10, e10⟩ : ∃ G, G = upd G9 p9 (.tup [.ref p8]) := ⟨_, rfl⟩
    rw [← e10]
    have s : Same G9 G10 := e10 ▸ Same.upd hp9
    have np9 := M9.ne hp9
    have M10 := M9.same s
    have f10 : Fr m l l H G10 := e10 ▸ f9.junk hp9
    replace kp1 := s _ _ kp1
    replace kp2 := s _ _ kp2
    replace kp3 := s _ _ kp3
    replace kp4 := s _ _ kp4
    replace kL1 := s _ _ kL1
    replace kp5 := s _ _ kp5
    replace kp6 := s _ _ kp6
    replace kp7 := s _ _ kp7
    replace kp8 := s _ _ kp8
    have kp9 : G10 p9 = some (.tup [.ref p8]) := by rw [e10, upd_same]
    clear s e10
    refine ⟨(by show 3 ≤ sizeLine; decide), fun p10 hp10 => ?_⟩
    obtain ⟨G11, e11⟩ : ∃ G, G = upd G10 p10 (.tup [.str "do", .str "a", .int 0]) := ⟨_, rfl⟩
    rw [← e11]
    have s : Same G10 G11 := e11 ▸ Same.upd hp10
    have np10 := M10.ne hp10
    have M11 := M10.same s
    have f11 : Fr m l l H G11 := e11 ▸ f10.junk hp10
    replace kp1 := s _ _ kp1
    replace kp2 := s _ _ kp2
    replace kp3 := s _ _ kp3
    replace kp4 := s _ _ kp4
    replace kL1 := s _ _ kL1
    replace kp5 := s _ _ kp5
    replace kp6 := s _ _ kp6
    replace kp7 := s _ _ kp7
    replace kp8 := s _ _ kp8
    replace kp9 := s _ _ kp9
    have kp10 : G11 p10 = some (.tup [.str "do", .str "a", .int 0]) := by rw [e11, upd_same]
    clear s e11
    refine ⟨(by show 8 ≤ sizeLine; decide), fun L2 hL2 => ?_⟩
    obtain ⟨G12, e12⟩ : ∃ G, G = upd G11 L2 (.lst [.ref p5, .ref p6, .int (10 ^ (30 : Int).toNat), .ref p7, .ref p9, .str "begin", .str "a1", .ref p10]) := ⟨_, rfl⟩
    rw [← e12]
    have s : Same G11 G12 := e12 ▸ Same.upd hL2
    have nL2 := M11.ne hL2
    have M12 := M11.same s
    have f12 : Fr m l l H G12 := e12 ▸ f11.junk hL2
    replace kp1 := s _ _ kp1
    replace kp2 := s _ _ kp2
    replace kp3 := s _ _ kp3
    replace kp4 := s _ _ kp4
    replace kL1 := s _ _ kL1
    replace kp5 := s _ _ kp5
    replace kp6 := s _ _ kp6
    replace kp7 := s _ _ kp7
    replace kp8 := s _ _ kp8
    replace kp9 := s _ _ kp9
    replace kp10 := s _ _ kp10
    have kL2 : G12 L2 = some (.lst [.ref p5, .ref p6, .int (10 ^ (30 : Int).toNat), .ref p7, .ref p9, .str "begin", .str "a1", .ref p10]) := by rw [e12, upd_same]
    clear s e12
    refine ⟨L1, L2, _, _, rfl, rfl, kL1, kL2, (by show 26 ≤ sizeLine; decide), fun L3 hL3 => ?_⟩
    obtain ⟨G13, e13⟩ : ∃ G, G = upd G12 L3 (.lst [.non, .int 0, .int 1, .int 2, .int 4, .int (-1), .int 100, .bl true, .bl false, .str "", .str "a", .str "abcdefghi", .str "A", .str "end", .str "live", .ref p1, .ref p3, .ref p4, .ref p5, .ref p6, .int (10 ^ (30 : Int).toNat), .ref p7, .ref p9, .str "begin", .str "a1", .ref p10]) := ⟨_, rfl⟩
    have e13' : upd G12 L3 (.lst (([.non, .int 0, .int 1, .int 2, .int 4, .int (-1), .int 100, .bl true, .bl false, .str "", .str "a", .str "abcdefghi", .str "A", .str "end", .str "live", .ref p1, .ref p3, .ref p4] : List V) ++ [.ref p5, .ref p6, .int (10 ^ (30 : Int).toNat), .ref p7, .ref p9, .str "begin", .str "a1", .ref p10])) = G13 := e13.symm
    rw [e13']
    have s : Same G12 G13 := e13 ▸ Same.upd hL3
    have nL3 := M12.ne hL3
    have M13 := M12.same s
    have f13 : Fr m l l H G13 := e13 ▸ f12.junk hL3
    replace kp1 := s _ _ kp1
    replace kp2 := s _ _ kp2
    replace kp3 := s _ _ kp3
    replace kp4 := s _ _ kp4
    replace kL1 := s _ _ kL1
    replace kp5 := s _ _ kp5
    replace kp6 := s _ _ kp6
    replace kp7 := s _ _ kp7
    replace kp8 := s _ _ kp8
    replace kp9 := s _ _ kp9
    replace kp10 := s _ _ kp10
    replace kL2 := s _ _ kL2
    have kL3 : G13 L3 = some (.lst [.non, .int 0, .int 1, .int 2, .int 4, .int (-1), .int 100, .bl true, .bl false, .str "", .str "a", .str "abcdefghi", .str "A", .str "end", .str "live", .ref p1, .ref p3, .ref p4, .ref p5, .ref p6, .int (10 ^ (30 : Int).toNat), .ref p7, .ref p9, .str "begin", .str "a1", .ref p10]) := by rw [e13, upd_same]
    clear s e13 e13'
    have D : DqAll K G13 m l [.non, .int 0, .int 1, .int 2, .int 4, .int (-1), .int 100, .bl true, .bl false, .str "", .str "a", .str "abcdefghi", .str "A", .str "end", .str "live", .ref p1, .ref p3, .ref p4, .ref p5, .ref p6, .int (10 ^ (30 : Int).toNat), .ref p7, .ref p9, .str "begin", .str "a1", .ref p10] odds :=
      (.cons (.non) (.cons (.int _) (.cons (.int _) (.cons (.int _) (.cons (.int _) (.cons (.int _) (.cons (.int _) (.cons (.bl _) (.cons (.bl _) (.cons (.str _) (.cons (.str _) (.cons (.str _) (.cons (.str _) (.cons (.str _) (.cons (.str _) (.cons (.tup (.inl (.inl kp1)) .nil) (.cons (.tup (.inl (.inl kp3)) (.cons (.tup (.inl (.inl kp2)) .nil) .nil)) (.cons (.tup (.inl (.inl kp4)) (.cons (.str _) (.cons (.int _) .nil))) (.cons (.lst kp5 np5.1 np5.2 .nil) (.cons (.dct kp6 np6.1 np6.2) (.cons (.int _) (.cons (.tup (.inl (.inl kp7)) (.cons (.str _) .nil)) (.cons (.tup (.inl (.inl kp9)) (.cons (.tup (.inl (.inl kp8)) (.cons (.str _) .nil)) .nil)) (.cons (.str _) (.cons (.str _) (.cons (.tup (.inl (.inl kp10)) (.cons (.str _) (.cons (.str _) (.cons (.int _) .nil)))) .nil))))))))))))))))))))))))))
    have kd := M13.step (l' := l) (Fr.refl M13)
    clear kL1 kL2 kp1 kp2 kp3 kp4 kp5 kp6 kp7 kp8 kp9 kp10
    refine ⟨_, rfl, m, l, n, 26, rfl, M13, by omega, by decide, by decide, fun r l' H' r0 r1 M' f => ?_⟩
    obtain ⟨rn, rfl⟩ : ∃ rn : Nat, r = (rn : Int) := ⟨r.toNat, by omega⟩
    obtain ⟨vs, hvs⟩ : ∃ vs : List V, vs = [.non, .int 0, .int 1, .int 2, .int 4, .int (-1), .int 100, .bl true, .bl false, .str "", .str "a", .str "abcdefghi", .str "A", .str "end", .str "live", .ref p1, .ref p3, .ref p4, .ref p5, .ref p6, .int (10 ^ (30 : Int).toNat), .ref p7, .ref p9, .str "begin", .str "a1", .ref p10] := ⟨_, rfl⟩
    rw [← hvs] at D kL3
    have lv : vs.length = 26 := by rw [hvs]; rfl
    obtain ⟨v, hv⟩ : ∃ v, vs[rn]? = some v := ⟨_, List.getElem?_eq_getElem (by rw [lv]; omega)⟩
    obtain ⟨d, hd, dq⟩ := D.get hv
    have gd : Gd big 128 2 d := gd_of (List.all_eq_true.mp odds_good d (List.mem_of_getElem? hd))
    refine ⟨L3, _, (rn : Int), v, rfl, rfl, SqL.of (f.keep L3 _ kL3 nL3.1 nL3.2), atI_nat hv, ?_⟩
    exact q v d l' H' (Dq.step (M13.step f) d v dq) gd M' (f13.trans f)
end
end Ms
namespace Ms
open PySem PySem.Spec PyProof.Rows L2
structure TxtB (mg : Str → Option Value) (fN fM fO fB : Addr) : Prop extends TxtS mg fN fM where
  odd : mg "_law_odd" = some (.ref fO)
  bent : mg "_law_bent" = some (.ref fB)
  isi : mg "isinstance" = none
  str : mg "str" = none
  bool : mg "bool" = none
def spBent (K : PySem.W.Frag) : Nat → Sp
  | 0 => fun _ _ _ _ => False
  | k + 1 => fun vs H Q _ => ∃ (m l : Addr) (n : Nat) (v : V) (d : PyData) (B a b : Nat), vs = [.ref m, v] ∧ Mch H m l n ∧ n + 8 * (k + 1) < 700000 ∧ Dq K H m l v d ∧ Gd B a b d ∧ big ≤ B ∧ B + 100 ≤ 10 ^ 31 ∧ a ≤ 50000 ∧ d.depth ≤ k ∧
    ∀ (v' : V) (d' : PyData) (l' : Addr) (H' : Hp), Dq K H' m l' v' d' → Gd (B + 100) (2 * a + 200) (b + 2) d' → Mch H' m l' (n + 8 * (k + 1)) → Fr m l l' H H' → Q v' H'
abbrev NB : List Str := ["m", "thing", "at", "way"]
theorem scBe : FnScope NB ["m", "thing"] (defScope sBent) := ⟨rfl, rfl, rfl, by decide +kernel, rfl, by decide +kernel, by decide +kernel⟩
theorem mul_small {z : Str} (h : z.length ≤ 50000) : PySem.MulOk z 2 := ⟨by decide, fun _ _ => by
    have e : ((2 : Int) ^ 63 - 1) / 2 = 4611686018427387903 := by decide
    rw [e]; omega, fun _ _ => by
    show decide (z.length * 2 > sizeLine) = false
    rw [decide_eq_false_iff_not, sizeLine_eq]
    omega⟩
section
variable {P : Program} {w : World} {K : PySem.W.Frag} {mg : Str → Option Value} {base : Heap} {fN fM fO fB : Addr}
theorem bent_step {k : Nat} {fd fdN fdO : FuncData} (F : Fun K "_law_bent" "_law_bent" sBent fB fd) (bB : Binds K fd ["m", "thing"] []) (T : TxtB mg fN fM fO fB) (FN : Fun K "_law_next" "_law_next" sNext fN fdN) (bN : Binds K fdN ["m", "many"] [])
    (FO : Fun K "_law_odd" "_law_odd" sOdd fO fdO) (bO : Binds K fdO ["m"] []) (GB : FnOk P w K mg base CX0 (k + 2) fB fd ["m", "thing"] (spBent K k)) : FnOk P w K mg base CX0 (k + 3) fB fd ["m", "thing"] (spBent K (k + 1)) := by
  have GN : FnOk P w K mg base CX0 (k + 2) fN fdN ["m", "many"] spNext := (ok_next FN T.toTxt).mono (by omega)
  have GO : FnOk P w K mg base CX0 (k + 2) fO fdO ["m"] (spOdd K) := (ok_odd FO T.toTxtS FN bN).mono (by omega)
  refine F.ok scBe (fun vs H Q E h => ?_) (fun cdv A outer s H vs Q E hr h => ?_)
  · obtain ⟨m, l, n, v, d, B, a, b, rfl, _⟩ := h
    rfl
  obtain ⟨m, l, n, v, d, B, a, b, rfl, M, hn, hd, gd, hB, hB2, ha, hk, q⟩ := h
  have hu := hu_of hr
  have lenOk : ∀ c : Nat, c ≤ 100400 → c ≤ sizeLine := fun c h => by rw [sizeLine_eq]; omega
  have tupOk : ∀ (ds : List PyData), d = .tuple ds → ∃ c, b = c + 1 ∧ Gl' B a c ds ∧ PyData.weightAll ds ≤ a := fun ds e => by
    obtain ⟨c, e1, g⟩ := Gd.untup (e ▸ gd)
    exact ⟨c, e1, g, g.wt⟩
  have st5 : ∃ t, PSs (cxOf CX0 P w K mg base NB "_law_bent" (defScope sBent) fB cdv A outer s H E).nox ((defBody sBent).drop 9) t ∧ ∀ (p : Addr) (xs : List V) (ds : List PyData) (i : Nat) (way : Int) (l1 : Addr) (n1 : Nat) (H1 : Hp), d = .tuple ds → SqT K H1 p xs → DqAll K H1 m l1 xs ds → i < xs.length → Mch H1 m l1 n1 → n1 ≤ n + 5 → Fr m l l1 H H1 → t ({ nx := fun _ H' => Q .non H', rt := Q } : Ends) [some (.ref m), some (.ref p), some (.int (i : Int)), some (.int way)] H1 := by
    refine ⟨_, pss_one (ps_ret (pe_op op_catA (pe_op op_catA (pe_slice sl_tupA (pv 1) po_none (po_some (pv 2))) (pe_tup (pa_cons (pe_call GB hr rfl T.bent F.kp bB .nil pass0 (pa_cons (pv 0) (pa_cons (pe_ix ix_tup (pv 1) (pv 2) (fun _ _ => rfl)) pa_nil))) pa_nil))) (pe_slice sl_tupA (pv 1) (po_some (pe_op op_add (pv 2) pe_int)) po_none))), ?_⟩
    intro p xs ds i way l1 n1 H1 ed hp hx hi M1 h1 f1
    obtain ⟨c, eb, g, gw⟩ := tupOk ds ed
    have lx := hx.len
    have ls := wA_len ds
    cases k with
    | zero =>
      rw [ed] at hk
      simp only [PyData.depth] at hk
      omega
    | succ k' =>
    obtain ⟨e, he⟩ : ∃ e, ds[i]? = some e := ⟨_, List.getElem?_eq_getElem (by omega)⟩
    obtain ⟨u, hui⟩ : ∃ u, xs[i]? = some u := ⟨_, List.getElem?_eq_getElem hi⟩
    have ge := g.at he
    have wat := wA_at he
    have dk : e.depth ≤ k' := by
      rw [ed] at hk
      simp only [PyData.depth] at hk
      exact dA_iff.mp (by omega) e (List.mem_of_getElem? he)
    refine ⟨_, rfl, _, rfl, _, rfl, slA_any hp fun p1 H2 s2 c2 => ?_⟩
    rw [cut_to (by omega)] at c2
    have k2 := M1.kept s2
    have hx2 := DqAll.step k2 ds xs hx
    obtain ⟨e', he', dqe⟩ := hx2.get hui
    have ee : e' = e := Option.some.inj (he'.symm.trans he)
    subst ee
    refine ⟨_, rfl, _, rfl, _, rfl, p, xs, _, u, rfl, rfl, Same.seqT s2 hp, atI_nat hui, m, l1, n1, u, e', B, e'.weight, c, rfl, M1.same s2, by omega, dqe, ge, hB, hB2, by omega, dk, fun v2 d2 l2 H3 dq2 gd2 M3 f3 => ?_⟩
    refine ⟨(by show 1 ≤ sizeLine; decide), fun p3 h3 => ?_⟩
    have k3 := (M1.same s2).step f3
    have s4 : Same H3 (upd H3 p3 (.tup [v2])) := Same.upd h3
    refine catA_any (Same.seqT s4 (k3.tup c2)) (.inl (.inl upd_same)) (lenOk _ (by simp; omega)) fun p4 H5 s5 c5 => ?_
    have hp5 : SqT K H5 p xs := Same.seqT s5 (Same.seqT s4 (k3.tup (Same.seqT s2 hp)))
    refine ⟨_, rfl, _, rfl, _, _, rfl, rfl, _, rfl, ?_⟩
    refine noPart ?_
    refine slA_any hp5 fun p6 H6 s6 c6 => ?_
    rw [cut_from1 hi] at c6
    refine catA_any (Same.seqT s6 c5) c6 (lenOk _ (by simp; omega)) fun p7 H7 s7 c7 => ?_
    have s37 := ((s4.trans s5).trans s6).trans s7
    have F7 := (Fr.lead s2 f3).trail s37
    have hx7 := DqAll.step (M1.step F7) ds xs hx
    have dq7 := Dq.step (M3.kept s37) d2 v2 dq2
    refine q (.ref p7) (.tuple ((ds.take i ++ [d2]) ++ ds.drop (i + 1))) l2 H7 (.tup c7 (((hx7.take i).app (.cons dq7 .nil)).app (hx7.drop (i + 1)))) ?_ ((M3.same s37).mono (by omega)) (f1.trans F7)
    rw [eb]
    exact Gd.tup (((((g.tk i).mono (by omega) (Nat.le_refl _) (by omega)).app (Gl'.one gd2)).app ((g.dr (i + 1)).mono (by omega) (Nat.le_refl _) (by omega))).mono (Nat.le_refl _) (by omega) (Nat.le_refl _))
  have st4 : ∃ t, PSs (cxOf CX0 P w K mg base NB "_law_bent" (defScope sBent) fB cdv A outer s H E).nox ((defBody sBent).drop 8) t ∧ ∀ (p : Addr) (xs : List V) (ds : List PyData) (i : Nat) (way : Int) (l1 : Addr) (n1 : Nat) (H1 : Hp), d = .tuple ds → SqT K H1 p xs → DqAll K H1 m l1 xs ds → i < xs.length → Mch H1 m l1 n1 → n1 ≤ n + 5 → Fr m l l1 H H1 → t ({ nx := fun _ H' => Q .non H', rt := Q } : Ends) [some (.ref m), some (.ref p), some (.int (i : Int)), some (.int way)] H1 := by
    obtain ⟨t5, d5, z5⟩ := st5
    refine ⟨_, pss_cons (ps_if (pt_cmpR op_eq (pv 3) pe_int (nomark _)) (pss_one (ps_ret (pe_revT (pv 1)))) pss_nil) d5, ?_⟩
    intro p xs ds i way l1 n1 H1 ed hp hx hi M1 h1 f1
    refine ⟨_, rfl, rfl, _, rfl, ite_b (fun e => ?_) (fun _ => z5 p xs ds i way l1 n1 H1 ed hp hx hi M1 h1 f1)⟩
    obtain ⟨c, eb, g, gw⟩ := tupOk ds ed
    have lx := hx.len
    have ls := wA_len ds
    refine ⟨_, rfl, p, xs, rfl, hp, fun p7 h7 => ?_⟩
    have s17 : Same H1 (upd H1 p7 (.tup xs.reverse)) := Same.upd h7
    have hx7 := DqAll.step (M1.kept s17) ds xs hx
    refine q (.ref p7) (.tuple ds.reverse) l1 _ (.tup (.inl (.inl upd_same)) hx7.rev) ?_ ((M1.same s17).mono (by omega)) (f1.trail s17)
    rw [eb]
    exact (Gd.tup g.rv).mono (by omega) (by omega) (by omega)
  have st3 : ∃ t, PSs (cxOf CX0 P w K mg base NB "_law_bent" (defScope sBent) fB cdv A outer s H E).nox ((defBody sBent).drop 7) t ∧ ∀ (p : Addr) (xs : List V) (ds : List PyData) (i : Nat) (way : Int) (l1 : Addr) (n1 : Nat) (H1 : Hp), d = .tuple ds → SqT K H1 p xs → DqAll K H1 m l1 xs ds → i < xs.length → Mch H1 m l1 n1 → n1 ≤ n + 5 → Fr m l l1 H H1 → t ({ nx := fun _ H' => Q .non H', rt := Q } : Ends) [some (.ref m), some (.ref p), some (.int (i : Int)), some (.int way)] H1 := by
    obtain ⟨t4, d4, z4⟩ := st4
    refine ⟨_, pss_cons (ps_if (pt_cmpR op_eq (pv 3) pe_int (nomark _)) (pss_one (ps_ret (pe_op op_catA (pe_op op_catA (pe_slice sl_tupA (pv 1) po_none (po_some (pv 2))) (pe_tup (pa_cons (pe_call GO hr rfl T.odd FO.kp bO .nil pass0 (pa_cons (pv 0) pa_nil)) pa_nil))) (pe_slice sl_tupA (pv 1) (po_some (pv 2)) po_none)))) pss_nil) d4, ?_⟩
    intro p xs ds i way l1 n1 H1 ed hp hx hi M1 h1 f1
    refine ⟨_, rfl, rfl, _, rfl, ite_b (fun e => ?_) (fun _ => z4 p xs ds i way l1 n1 H1 ed hp hx hi M1 h1 f1)⟩
    obtain ⟨c, eb, g, gw⟩ := tupOk ds ed
    have lx := hx.len
    have ls := wA_len ds
    refine ⟨_, rfl, _, rfl, _, rfl, slA_any hp fun p1 H2 s2 c2 => ?_⟩
    rw [cut_to (by omega)] at c2
    have k2 := M1.kept s2
    refine ⟨_, rfl, m, l1, n1, rfl, M1.same s2, by omega, fun v2 d2 l2 H3 dq2 gd2 M3 f3 => ?_⟩
    refine ⟨(by show 1 ≤ sizeLine; decide), fun p3 h3 => ?_⟩
    have k3 := (M1.same s2).step f3
    have s4 : Same H3 (upd H3 p3 (.tup [v2])) := Same.upd h3
    refine catA_any (Same.seqT s4 (k3.tup c2)) (.inl (.inl upd_same)) (lenOk _ (by simp; omega)) fun p4 H5 s5 c5 => ?_
    have hp5 : SqT K H5 p xs := Same.seqT s5 (Same.seqT s4 (k3.tup (Same.seqT s2 hp)))
    refine ⟨_, rfl, _, rfl, _, rfl, ?_⟩
    refine noPart ?_
    refine slA_any hp5 fun p6 H6 s6 c6 => ?_
    rw [cut_from (by omega)] at c6
    refine catA_any (Same.seqT s6 c5) c6 (lenOk _ (by simp; omega)) fun p7 H7 s7 c7 => ?_
    have s37 := ((s4.trans s5).trans s6).trans s7
    have F7 := (Fr.lead s2 f3).trail s37
    have hx7 := DqAll.step (M1.step F7) ds xs hx
    have dq7 := Dq.step (M3.kept s37) d2 v2 dq2
    have wsp := wA_split ds i
    refine q (.ref p7) (.tuple ((ds.take i ++ [d2]) ++ ds.drop i)) l2 H7 (.tup c7 (((hx7.take i).app (.cons dq7 .nil)).app (hx7.drop i))) ?_ ((M3.same s37).mono (by omega)) (f1.trans F7)
    rw [eb]
    exact Gd.tup (((((g.tk i).mono (B' := B + 100) (c' := c + 2) (by omega) (Nat.le_refl _) (by omega)).app (Gl'.one (gd2.mono (by omega) (Nat.le_refl _) (by omega)))).app ((g.dr i).mono (by omega) (Nat.le_refl _) (by omega))).mono (Nat.le_refl _) (by omega) (Nat.le_refl _))
  have st2 : ∃ t, PSs (cxOf CX0 P w K mg base NB "_law_bent" (defScope sBent) fB cdv A outer s H E).nox ((defBody sBent).drop 6) t ∧ ∀ (p : Addr) (xs : List V) (ds : List PyData) (i : Nat) (way : Int) (l1 : Addr) (n1 : Nat) (H1 : Hp), d = .tuple ds → SqT K H1 p xs → DqAll K H1 m l1 xs ds → i < xs.length → Mch H1 m l1 n1 → n1 ≤ n + 5 → Fr m l l1 H H1 → t ({ nx := fun _ H' => Q .non H', rt := Q } : Ends) [some (.ref m), some (.ref p), some (.int (i : Int)), some (.int way)] H1 := by
    obtain ⟨t3, d3, z3⟩ := st3
    refine ⟨_, pss_cons (ps_if (pt_cmpR op_eq (pv 3) pe_int (nomark _)) (pss_one (ps_ret (pe_callTy call_list_of (by rfl) T.list (by decide +kernel) (pa_cons (pv 1) pa_nil)))) pss_nil) d3, ?_⟩
    intro p xs ds i way l1 n1 H1 ed hp hx hi M1 h1 f1
    refine ⟨_, rfl, rfl, _, rfl, ite_b (fun e => ?_) (fun _ => z3 p xs ds i way l1 n1 H1 ed hp hx hi M1 h1 f1)⟩
    obtain ⟨c, eb, g, gw⟩ := tupOk ds ed
    have lx := hx.len
    have ls := wA_len ds
    refine ⟨_, rfl, p, xs, rfl, .inr hp, fun p7 h7 => ?_⟩
    have s17 : Same H1 (upd H1 p7 (.lst xs)) := Same.upd h7
    have n7 := M1.ne h7
    have hx7 := DqAll.step (M1.kept s17) ds xs hx
    refine q (.ref p7) (.list ds) l1 _ (.lst upd_same n7.1 n7.2 hx7) ?_ ((M1.same s17).mono (by omega)) (f1.trail s17)
    rw [eb]
    exact (Gd.lst g).mono (by omega) (by omega) (by omega)
  have st1 : ∃ t, PSs (cxOf CX0 P w K mg base NB "_law_bent" (defScope sBent) fB cdv A outer s H E).nox ((defBody sBent).drop 5) t ∧ ∀ (p : Addr) (xs : List V) (ds : List PyData) (i : Nat) (way : Int) (l1 : Addr) (n1 : Nat) (H1 : Hp), d = .tuple ds → SqT K H1 p xs → DqAll K H1 m l1 xs ds → i < xs.length → Mch H1 m l1 n1 → n1 ≤ n + 5 → Fr m l l1 H H1 → t ({ nx := fun _ H' => Q .non H', rt := Q } : Ends) [some (.ref m), some (.ref p), some (.int (i : Int)), some (.int way)] H1 := by
    obtain ⟨t2, d2, z2⟩ := st2
    refine ⟨_, pss_cons (ps_if (pt_cmpR op_eq (pv 3) pe_int (nomark _)) (pss_one (ps_ret (pe_op op_catA (pv 1) (pe_slice sl_tupA (pv 1) (po_some (pv 2)) (po_some (pe_op op_add (pv 2) pe_int)))))) pss_nil) d2, ?_⟩
    intro p xs ds i way l1 n1 H1 ed hp hx hi M1 h1 f1
    refine ⟨_, rfl, rfl, _, rfl, ite_b (fun e => ?_) (fun _ => z2 p xs ds i way l1 n1 H1 ed hp hx hi M1 h1 f1)⟩
    obtain ⟨c, eb, g, gw⟩ := tupOk ds ed
    have lx := hx.len
    have ls := wA_len ds
    refine ⟨_, rfl, _, rfl, _, rfl, _, rfl, _, rfl, _, _, rfl, rfl, _, rfl, ?_⟩
    refine slA_any hp fun p6 H6 s6 c6 => ?_
    rw [cut_one hi] at c6
    refine catA_any (Same.seqT s6 hp) c6 (lenOk _ (by simp; omega)) fun p7 H7 s7 c7 => ?_
    have s17 := s6.trans s7
    have hx7 := DqAll.step (M1.kept s17) ds xs hx
    have w1 := wA_split ds i
    have w2 := wA_split (ds.drop i) 1
    refine q (.ref p7) (.tuple (ds ++ (ds.drop i).take 1)) l1 H7 (.tup c7 (hx7.app ((hx7.drop i).take 1))) ?_ ((M1.same s17).mono (by omega)) (f1.trail s17)
    rw [eb]
    exact (Gd.tup (g.app ((g.dr i).tk 1))).mono (by omega) (by omega) (by omega)
  have st0 : ∃ t, PSs (cxOf CX0 P w K mg base NB "_law_bent" (defScope sBent) fB cdv A outer s H E).nox ((defBody sBent).drop 4) t ∧ ∀ (p : Addr) (xs : List V) (ds : List PyData) (i : Nat) (way : Int) (l1 : Addr) (n1 : Nat) (H1 : Hp), d = .tuple ds → SqT K H1 p xs → DqAll K H1 m l1 xs ds → i < xs.length → Mch H1 m l1 n1 → n1 ≤ n + 5 → Fr m l l1 H H1 → t ({ nx := fun _ H' => Q .non H', rt := Q } : Ends) [some (.ref m), some (.ref p), some (.int (i : Int)), some (.int way)] H1 := by
    obtain ⟨t1, d1, z1⟩ := st1
    refine ⟨_, pss_cons (ps_if (pt_cmpR op_eq (pv 3) pe_int (nomark _)) (pss_one (ps_ret (pe_op op_catA (pe_slice sl_tupA (pv 1) po_none (po_some (pv 2))) (pe_slice sl_tupA (pv 1) (po_some (pe_op op_add (pv 2) pe_int)) po_none)))) pss_nil) d1, ?_⟩
    intro p xs ds i way l1 n1 H1 ed hp hx hi M1 h1 f1
    refine ⟨_, rfl, rfl, _, rfl, ite_b (fun e => ?_) (fun _ => z1 p xs ds i way l1 n1 H1 ed hp hx hi M1 h1 f1)⟩
    obtain ⟨c, eb, g, gw⟩ := tupOk ds ed
    have lx := hx.len
    have ls := wA_len ds
    refine ⟨_, rfl, _, rfl, _, rfl, slA_any hp fun p1 H2 s2 c2 => ?_⟩
    rw [cut_to (by omega)] at c2
    refine ⟨_, rfl, _, rfl, _, _, rfl, rfl, _, rfl, ?_⟩
    refine noPart ?_
    refine slA_any (Same.seqT s2 hp) fun p6 H6 s6 c6 => ?_
    rw [cut_from1 hi] at c6
    refine catA_any (Same.seqT s6 c2) c6 (lenOk _ (by simp; omega)) fun p7 H7 s7 c7 => ?_
    have s17 := (s2.trans s6).trans s7
    have hx7 := DqAll.step (M1.kept s17) ds xs hx
    have w1 := wA_split ds i
    have w2 := wA_split ds (i + 1)
    have w3 : PyData.weightAll (ds.drop (i + 1)) ≤ PyData.weightAll (ds.drop i) := by
      have := wA_split (ds.drop i) 1
      rw [List.drop_drop] at this
      omega
    refine q (.ref p7) (.tuple (ds.take i ++ ds.drop (i + 1))) l1 H7 (.tup c7 ((hx7.take i).app (hx7.drop (i + 1)))) ?_ ((M1.same s17).mono (by omega)) (f1.trail s17)
    rw [eb]
    exact (Gd.tup ((g.tk i).app (g.dr (i + 1)))).mono (by omega) (by omega) (by omega)
  obtain ⟨t0, d0, z0⟩ := st0
  have sa : ∃ t, PSs (cxOf CX0 P w K mg base NB "_law_bent" (defScope sBent) fB cdv A outer s H E).nox ((defBody sBent).drop 3) t ∧ ∀ (p : Addr) (xs : List V) (ds : List PyData) (l1 : Addr) (n1 : Nat) (H1 : Hp), d = .tuple ds → SqT K H1 p xs → DqAll K H1 m l1 xs ds → 0 < xs.length → Mch H1 m l1 n1 → n1 ≤ n + 3 → Fr m l l1 H H1 → t ({ nx := fun _ H' => Q .non H', rt := Q } : Ends) [some (.ref m), some (.ref p), none, none] H1 := by
    refine ⟨_, pss_cons (ps_par (i := 2) (j := 3) (by rfl) scBe.nd rfl rfl (by decide) rfl rfl (pa_cons (pe_call GN hr rfl T.next FN.kp bN .nil pass0 (pa_cons (pv 0) (pa_cons (pe_callB call_len (by rfl) T.len PySem.boot_len (pa_cons (pv 1) pa_nil)) pa_nil))) (pa_cons (pe_call GN hr rfl T.next FN.kp bN .nil pass0 (pa_cons (pv 0) (pa_cons pe_int pa_nil))) pa_nil)) (by rfl)) d0, ?_⟩
    intro p xs ds l1 n1 H1 ed hp hx hi M1 h1 f1
    obtain ⟨c, eb, g, gw⟩ := tupOk ds ed
    have lx := hx.len
    have ls := wA_len ds
    refine ⟨_, rfl, _, rfl, _, _, rfl, .inr ⟨_, hp, rfl⟩, m, l1, n1, (xs.length : Int), rfl, M1, by omega, by omega, by omega, fun r l2 H2 r0 r1 M2 f2 => ?_⟩
    obtain ⟨i, rfl⟩ : ∃ i : Nat, r = (i : Int) := ⟨r.toNat, by omega⟩
    refine ⟨_, rfl, m, l2, n1 + 1, 11, rfl, M2, by omega, by decide, by decide, fun way l3 H3 w0 w1 M3 f3 => ?_⟩
    have F3 := f2.trans f3
    have k4 := M1.step F3
    exact ⟨_, _, rfl, z0 p xs ds i way l3 (n1 + 2) _ ed (k4.tup hp) (DqAll.step k4 ds xs hx) (by omega) M3 (by omega) (f1.trans F3)⟩
  obtain ⟨ta, da, za⟩ := sa
  have sb : ∃ t, PSs (cxOf CX0 P w K mg base NB "_law_bent" (defScope sBent) fB cdv A outer s H E).nox ((defBody sBent).drop 2) t ∧ ∀ (l1 : Addr) (n1 : Nat) (H1 : Hp), Mch H1 m l1 n1 → n1 ≤ n + 2 → Fr m l l1 H H1 → t ({ nx := fun _ H' => Q .non H', rt := Q } : Ends) [some (.ref m), some v, none, none] H1 := by
    refine ⟨_, pss_cons (ps_if (PW.pt (pw_or (pt_not (pt_val (pe_callB call_isi (by rfl) T.isi PyProof.Rows.boot_isinstance (pa_cons (pv 1) (pa_cons (pe_bltn (v := .ty "tuple") (u := .type "tuple") (by rfl) T.tuple (by decide +kernel) rfl) pa_nil))))) (pw_or (pt_cmpR (op_eq_nil hr.units) (pv 1) (pe_tup pa_nil) (nomark _)) (pw_or1 (pt_cmpR op_eq (pe_call GN hr rfl T.next FN.kp bN .nil pass0 (pa_cons (pv 0) (pa_cons pe_int pa_nil))) pe_int (nomark _)))))) (pss_one (ps_ret (pe_call GO hr rfl T.odd FO.kp bO .nil pass0 (pa_cons (pv 0) pa_nil)))) pss_nil) da, ?_⟩
    intro l1 n1 H1 M1 h1 f1
    have hd1 := Dq.step (M.step f1) d v hd
    have retO : ∀ (l1 : Addr) (n1 : Nat) (H1 : Hp), Mch H1 m l1 n1 → n1 ≤ n + 3 → Fr m l l1 H H1 → spOdd K [.ref m] H1 Q E0 := fun l1 n1 H1 M1 h1 f1 =>
      ⟨m, l1, n1, rfl, M1, by omega, fun v2 d2 l2 H3 dq2 gd2 M3 f3 => q v2 d2 l2 H3 dq2 (gd2.mono (by omega) (by omega) (by omega)) (M3.mono (by omega)) (f1.trans f3)⟩
    refine ⟨_, rfl, v, .ty "tuple", _, _, _, rfl, .ty _, hd1.ty, isi_tup K d, _, rfl, ?_⟩
    cases d with
    | tuple ds =>
      cases hd1 with
      | tup hp hx =>
        rename_i p xs
        refine ifF rfl ⟨_, rfl, Nat.zero_le _, fun p0 h0 => ?_⟩
        have s2 : Same H1 (upd H1 p0 (.tup [])) := Same.upd h0
        have M2 := M1.same s2
        have f2 := f1.trail s2
        refine ⟨_, _, xs, rfl, rfl, Same.seqT s2 hp, .inl (.inl upd_same), _, rfl, ite_b (fun e => ifT rfl ⟨_, rfl, retO l1 n1 _ M2 (by omega) f2⟩) (fun e => ?_)⟩
        have hne : xs.length ≠ 0 := fun z => by rw [z] at e; cases e
        refine ⟨_, rfl, m, l1, n1, 6, rfl, M2, by omega, by decide, by decide, fun r l2 H3 r0 r1 M3 f3 => ⟨rfl, _, rfl, ite_b (fun _ => ⟨_, rfl, retO l2 (n1 + 1) _ M3 (by omega) (f2.trans f3)⟩) (fun _ => ?_)⟩⟩
        have k3 := M1.step (Fr.lead s2 f3)
        exact za _ xs ds l2 (n1 + 1) H3 rfl (k3.tup hp) (DqAll.step k3 ds xs hx) (by omega) M3 (by omega) (f2.trans f3)
    | _ => exact ifT rfl (ifT rfl ⟨_, rfl, retO l1 n1 _ M1 (by omega) f1⟩)
  obtain ⟨tb, db, zb⟩ := sb
  have sc : ∃ t, PSs (cxOf CX0 P w K mg base NB "_law_bent" (defScope sBent) fB cdv A outer s H E).nox ((defBody sBent).drop 1) t ∧ ∀ (l1 : Addr) (n1 : Nat) (H1 : Hp), Mch H1 m l1 n1 → n1 ≤ n + 1 → Fr m l l1 H H1 → t ({ nx := fun _ H' => Q .non H', rt := Q } : Ends) [some (.ref m), some v, none, none] H1 := by
    refine ⟨_, pss_cons (ps_if (PW.pt (pw_and (pt_val (pe_callB call_isi (by rfl) T.isi PyProof.Rows.boot_isinstance (pa_cons (pv 1) (pa_cons (pe_bltn (v := .ty "int") (u := .type "int") (by rfl) T.int (by decide +kernel) rfl) pa_nil)))) (pw_and (pt_not (pt_val (pe_callB call_isi (by rfl) T.isi PyProof.Rows.boot_isinstance (pa_cons (pv 1) (pa_cons (pe_bltn (v := .ty "bool") (u := .type "bool") (by rfl) T.bool (by decide +kernel) rfl) pa_nil))))) (pw_and1 (pt_cmpR op_eq (pe_call GN hr rfl T.next FN.kp bN .nil pass0 (pa_cons (pv 0) (pa_cons pe_int pa_nil))) pe_int (nomark _)))))) (pss_one (ps_ret (pe_op op_add (pv 1) (pe_ix ix_list (pe_lst (pa_cons pe_int (pa_cons (pe_un un_neg pe_int) (pa_cons pe_int (pa_cons (pe_un un_neg pe_int) (pa_cons pe_int (pa_cons (pe_un un_neg pe_int) pa_nil))))))) (pe_call GN hr rfl T.next FN.kp bN .nil pass0 (pa_cons (pv 0) (pa_cons pe_int pa_nil))) (fun _ _ => rfl))))) pss_nil) db, ?_⟩
    intro l1 n1 H1 M1 h1 f1
    have hd1 := Dq.step (M.step f1) d v hd
    refine ⟨_, rfl, v, .ty "int", _, _, _, rfl, .ty _, hd1.ty, isi_int K d, _, rfl, ?_⟩
    cases d with
    | int j =>
      cases hd1
      refine ifT rfl ⟨_, rfl, .int j, .ty "bool", _, _, _, rfl, .ty _, .base (.int j), isi_bool K (.int j), _, rfl, ifT rfl ?_⟩
      refine ⟨_, rfl, m, l1, n1, 2, rfl, M1, by omega, by decide, by decide, fun r l2 H2 r0 r1 M2 f2 => ⟨rfl, _, rfl, ite_b (fun _ => ?_) (fun _ => zb l2 (n1 + 1) H2 M2 (by omega) (f1.trans f2))⟩⟩
      refine ⟨_, rfl, _, rfl, _, rfl, _, rfl, (by show 6 ≤ sizeLine; decide), fun pL hL => ?_⟩
      have sL : Same H2 (upd H2 pL (.lst [.int 1, .int (-1), .int 3, .int (-3), .int 100, .int (-100)])) := Same.upd hL
      have nL := M2.ne hL
      refine ⟨_, rfl, m, l2, n1 + 1, 6, rfl, M2.same sL, by omega, by decide, by decide, fun r2 l3 H3 a3 b3 M3 f3 => ?_⟩
      obtain ⟨c, hc, c1, c2⟩ : ∃ c : Int, atI ([.int 1, .int (-1), .int 3, .int (-3), .int 100, .int (-100)] : List V) r2 = some (.int c) ∧ -100 ≤ c ∧ c ≤ 100 := by
        obtain ⟨i, rfl⟩ : ∃ i : Nat, r2 = (i : Int) := ⟨r2.toNat, by omega⟩
        have hi : i < 6 := by omega
        match i, hi with
        | 0, _ => exact ⟨1, rfl, by decide, by decide⟩
        | 1, _ => exact ⟨-1, rfl, by decide, by decide⟩
        | 2, _ => exact ⟨3, rfl, by decide, by decide⟩
        | 3, _ => exact ⟨-3, rfl, by decide, by decide⟩
        | 4, _ => exact ⟨100, rfl, by decide, by decide⟩
        | 5, _ => exact ⟨-100, rfl, by decide, by decide⟩
      refine ⟨pL, _, r2, .int c, rfl, rfl, SqL.of (f3.keep pL _ upd_same nL.1 nL.2), hc, _, _, rfl, rfl, ?_⟩
      have gj := gd.unint
      exact q _ (.int (j + c)) l3 H3 (.int _) ((Gd.int (B := B + 100) (by omega) hB2).mono (Nat.le_refl _) (by omega) (by omega)) (M3.mono (by omega)) ((f1.trans f2).trans (Fr.lead sL f3))
    | bool j =>
      cases hd1
      refine ifT rfl ⟨_, rfl, .bl j, .ty "bool", _, _, _, rfl, .ty _, .base (.bl j), isi_bool K (.bool j), _, rfl, ifF rfl (ifF rfl (zb l1 n1 H1 M1 (by omega) f1))⟩
    | _ => exact ifF rfl (ifF rfl (zb l1 n1 H1 M1 (by omega) f1))
  obtain ⟨tc, dc, zc⟩ := sc
  refine ⟨_, pss_cons (ps_if (PW.pt (pw_and (pt_val (pe_callB call_isi (by rfl) T.isi PyProof.Rows.boot_isinstance (pa_cons (pv 1) (pa_cons (pe_bltn (v := .ty "str") (u := .type "str") (by rfl) T.str (by decide +kernel) rfl) pa_nil)))) (pw_and1 (pt_cmpR op_eq (pe_call GN hr rfl T.next FN.kp bN .nil pass0 (pa_cons (pv 0) (pa_cons pe_int pa_nil))) pe_int (nomark _))))) (pss_one (ps_ret (pe_ix ix_list (pe_lst (pa_cons (pe_op op_add_str (pv 1) pe_str) (pa_cons (pe_slice sl_str (pv 1) (po_some pe_int) po_none) (pa_cons (pe_op op_add_str (pv 1) pe_str) (pa_cons (pe_op op_add_str (pv 1) pe_str) (pa_cons (pe_op op_mul_si (pv 1) pe_int) (pa_cons (pe_op op_add_str (pv 1) pe_str) pa_nil))))))) (pe_call GN hr rfl T.next FN.kp bN .nil pass0 (pa_cons (pv 0) (pa_cons pe_int pa_nil))) (fun _ _ => rfl)))) pss_nil) dc, ?_⟩
  refine ⟨_, rfl, v, .ty "str", _, _, _, rfl, .ty _, hd.ty, isi_str K d, _, rfl, ?_⟩
  cases d with
  | str z =>
    cases hd
    have gz := gd.unstr
    have zl : z.length ≤ 50000 := Nat.le_trans gz.1 ha
    have zs : z.length ≤ sizeLine := lenOk _ (by omega)
    refine ifT rfl ⟨_, rfl, m, l, n, 2, rfl, M, by omega, by decide, by decide, fun r l2 H2 r0 r1 M2 f2 => ⟨rfl, _, rfl, ite_b (fun _ => ?_) (fun _ => zc l2 (n + 1) H2 M2 (by omega) f2)⟩⟩
    refine ⟨_, rfl, z, "b", rfl, rfl, lenOk _ (show z.length + 1 ≤ _ by omega), _, rfl, _, rfl, z, rfl, zs, _, rfl, z, "A", rfl, rfl, lenOk _ (show z.length + 1 ≤ _ by omega), _, rfl, z, " ", rfl, rfl, lenOk _ (show z.length + 1 ≤ _ by omega),
      _, rfl, z, 2, rfl, rfl, mul_small zl, _, rfl, z, "1", rfl, rfl, lenOk _ (show z.length + 1 ≤ _ by omega), (by show 6 ≤ sizeLine; decide), fun pL hL => ?_⟩
    obtain ⟨ws, hws⟩ : ∃ ws : List Str, ws = [z ++ "b", cutS z (some 1) none, z ++ "A", z ++ " ", Txt.mul z 2, z ++ "1"] := ⟨_, rfl⟩
    have one : ∀ c : Nat, c < 0x110000 → sOk (2 * a + 200) (z ++ ⟨#[c]⟩) := fun c hc => (gz.app (sOk.sign hc)).mono (by omega)
    have wok : ∀ y ∈ ws, sOk (2 * a + 200) y := by
      rw [hws]
      intro y hy
      simp only [List.mem_cons, List.mem_nil_iff, or_false] at hy
      rcases hy with rfl | rfl | rfl | rfl | rfl | rfl
      · exact one 98 (by decide)
      · exact (gz.cut _ _).mono (by omega)
      · exact one 65 (by decide)
      · exact one 32 (by decide)
      · exact (mul2_ok gz).mono (by omega)
      · exact one 49 (by decide)
    have wl : ws.length = 6 := by rw [hws]; rfl
    have sL : Same H2 (upd H2 pL (.lst (ws.map V.str))) := Same.upd hL
    have nL := M2.ne hL
    have eL : upd H2 pL (.lst (ws.map V.str)) = upd H2 pL (.lst [.str (z ++ "b"), .str (cutS z (some 1) none), .str (z ++ "A"), .str (z ++ " "), .str (Txt.mul z 2), .str (z ++ "1")]) := by rw [hws]; rfl
    rw [← eL]
    refine ⟨_, rfl, m, l2, n + 1, 6, rfl, M2.same sL, by omega, by decide, by decide, fun r2 l3 H3 a3 b3 M3 f3 => ?_⟩
    obtain ⟨i, rfl⟩ : ∃ i : Nat, r2 = (i : Int) := ⟨r2.toNat, by omega⟩
    obtain ⟨y, hy⟩ : ∃ y, ws[i]? = some y := ⟨_, List.getElem?_eq_getElem (by omega)⟩
    have hv : (ws.map V.str)[i]? = some (.str y) := by rw [List.getElem?_map, hy]; rfl
    refine ⟨pL, _, (i : Int), .str y, rfl, rfl, SqL.of (f3.keep pL _ upd_same nL.1 nL.2), atI_nat hv, ?_⟩
    exact q _ (.str y) l3 H3 (.str _) ((Gd.str (wok y (List.mem_of_getElem? hy))).mono (Nat.le_refl _) (Nat.le_refl _) (by omega)) (M3.mono (by omega)) (f2.trans (Fr.lead sL f3))
  | _ => exact ifF rfl (ifF rfl (zc l n H M (by omega) (Fr.refl M)))
theorem ok_bent {fd fdN fdO : FuncData} (F : Fun K "_law_bent" "_law_bent" sBent fB fd) (bB : Binds K fd ["m", "thing"] []) (T : TxtB mg fN fM fO fB) (FN : Fun K "_law_next" "_law_next" sNext fN fdN) (bN : Binds K fdN ["m", "many"] [])
    (FO : Fun K "_law_odd" "_law_odd" sOdd fO fdO) (bO : Binds K fdO ["m"] []) (k : Nat) : FnOk P w K mg base CX0 (k + 2) fB fd ["m", "thing"] (spBent K k) := by
  induction k with
  | zero => exact ⟨fun vs H Q E h => h.elim, fun A outer s H args us vs Q E hr e bd rel h => h.elim⟩
  | succ k ih => exact bent_step F bB T FN bN FO bO ih
end
end Ms
namespace Ms
open PySem PySem.Spec PyProof.Rows L2 RZ
/-! ### law k09: a turn of the inner loop -/
abbrev forBody (s : Stmt) : List Stmt := match s with
  | .For _ _ b _ _ => b
  | _ => []
abbrev bTurn : List Stmt := forBody ((defBody sLaw).getD 1 (.Pass ⟨0, 0, 0, 0⟩))
abbrev bEach : List Stmt := forBody (bTurn.getD 3 (.Pass ⟨0, 0, 0, 0⟩))
abbrev NL : List Str := ["script", "m", "turn", "spots", "places", "words", "one", "rows", "thing", "told", "e", "due", "row"]
theorem scL : FnScope NL ["script"] (defScope sLaw) := ⟨rfl, rfl, rfl, by decide +kernel, rfl, by decide +kernel, by decide +kernel⟩
def rReprD (K : PySem.W.Frag) : List V → Hp → VK → Prop := fun xs H Q => ∃ x d m l, xs = [x] ∧ Dq K H m l x d ∧ d.showable = true ∧ d.depth ≤ 60 ∧ d.shown.length ≤ sizeLine ∧ Q (.str d.shown) H
theorem noTake {X : Cx} : Takes X (fun _ _ _ _ => False) := fun _ _ ⟨_, _, _, _, _, _, _, _, _, _, _, _, _, _, _, _, w⟩ => w.elim
def prowD : Option (List Str) → PyData
  | none => .none
  | some row => .tuple (row.map .str)
/-- what is told of a thing -/
def dueP (ys : List (Str × Int)) (ds : List PyData) (d : PyData) : PyData := match d with
  | .tuple es => if standD ys d = true then .list [prowD (plainR ys ds (es.map fun e => match e with | .int i => i | _ => 0))] else .tuple [.str "standing", .str d.shown]
  | _ => .tuple [.str "standing", .str d.shown]
theorem ints_back (st : List Int) : ((st.map PyData.int).map fun e => match e with | .int i => i | _ => 0) = st := by
  rw [List.map_map]
  induction st with
  | nil => rfl
  | cons x st ih => rw [List.map_cons, ih]; rfl
theorem due_st {ys : List (Str × Int)} {ds : List PyData} {st : List Int} (so : stOk ys st) : dueP ys ds (.tuple (st.map .int)) = .list [prowD (plainR ys ds st)] := by
  unfold dueP
  simp only [st_stand so, if_true, ints_back]
theorem due_no {ys : List (Str × Int)} {ds : List PyData} {d : PyData} (h : standD ys d = false) : dueP ys ds d = .tuple [.str "standing", .str d.shown] := by
  cases d with
  | tuple es =>
    unfold dueP
    simp only [h, Bool.false_eq_true, if_false]
  | _ => rfl
/-- what was drawn at the turn's beginning -/
structure T9 (K : PySem.W.Frag) (H : Hp) (m l : Addr) (n : Nat) (pS : Addr) (xs : List V) (ys : List (Str × Int)) (pP : Addr) (ps : List V) (ds : List PyData) (x C dx : Addr) (vM : V) (pR : Addr) (rv : List V) : Prop where
  M : Mch H m l n
  so : SetOk ys
  s : SqT K H pS xs
  xs_ : DqAll K H m l xs (prD ys)
  p : SqT K H pP ps
  pd : DqAll K H m l ps ds
  pl : ∀ d ∈ ds, plD ys (ds.length : Int) d
  d1 : 1 ≤ ds.length
  d16 : ds.length ≤ 16
  nms : ∀ d ∈ ds, Gd big 460 2 d
  one : H x = some (.ins C dx (reqF (.ref pS) (.ref pP) vM))
  rows : H pR = some (.lst rv)
  rq : Rwq K H rv (grid ys)
theorem T9.same {K : PySem.W.Frag} {H H' : Hp} {m l : Addr} {n : Nat} {pS : Addr} {xs : List V} {ys : List (Str × Int)} {pP : Addr} {ps : List V} {ds : List PyData} {x C dx : Addr} {vM : V} {pR : Addr} {rv : List V} (s : Same H H') (T : T9 K H m l n pS xs ys pP ps ds x C dx vM pR rv) : T9 K H' m l n pS xs ys pP ps ds x C dx vM pR rv :=
  ⟨T.M.same s, T.so, Same.seqT s T.s, DqAll.same s _ _ T.xs_, Same.seqT s T.p, DqAll.same s _ _ T.pd, T.pl, T.d1, T.d16, T.nms, s _ _ T.one, s _ _ T.rows, T.rq.same s⟩
theorem most_b {ys : List (Str × Int)} (so : SetOk ys) : ∀ q ∈ ys, 0 ≤ q.2 ∧ q.2 ≤ 9 := fun q hq => by
  have := so.most q hq
  omega
/-- names of deeds in a row are short -/
theorem row_names {ys : List (Str × Int)} {st : List Int} {ds : List PyData} (so : stOk ys st) (hn : (ys.map (·.1)).Nodup) (hp : ∀ d ∈ ds, plD ys (ds.length : Int) d) : ∀ (k h : Nat) (acc w : List Str), h < ds.length → (∀ z ∈ acc, nmOk z) → walkD ys st ds k h acc = some w → (∀ z ∈ w, nmOk z) ∧ w.length ≤ acc.length + k
  | 0, _, _, _, _, _, e => by cases e
  | k + 1, h, acc, w, hh, ha, e => by
    have cl := pl_next so hn hp
    cases g : goD ys st (ds.getD h .none) with
    | none =>
      rw [walk_end g] at e
      cases e
      exact ⟨ha, by omega⟩
    | some zr =>
      obtain ⟨z, r⟩ := zr
      rw [walk_go g] at e
      have hz : ∀ y ∈ acc ++ z.toList, nmOk y := fun y hy => by
        rcases List.mem_append.mp hy with hy | hy
        · exact ha y hy
        · have eg : ds.getD h .none = ds[h] := by rw [List.getD_eq_getElem?_getD, List.getElem?_eq_getElem hh]; rfl
          rw [eg] at g
          rcases hp _ (List.getElem_mem hh) with e1 | ⟨z', r', e1, hz', _, _⟩ | ⟨q, hq, ns, e1, hl, hx⟩
          · rw [e1] at g; cases g
          · rw [e1, go_do] at g
            cases g
            simp at hy
            rw [hy]; exact hz'
          · obtain ⟨i, v, r2, _, _, _, _, _, _, hr, e2⟩ := go_ask (w := "ask") so hn hq hl
            rw [e1, e2] at g
            cases g
            simp at hy
      obtain ⟨h1, h2⟩ := row_names so hn hp k _ _ _ (cl h z r hh g) hz e
      refine ⟨h1, ?_⟩
      have : (acc ++ z.toList).length ≤ acc.length + 1 := by
        rw [List.length_append]
        cases z <;> simp
      omega
theorem strs_good : ∀ w : List Str, (∀ z ∈ w, nmOk z) → Gl' big (17 * w.length) 0 (w.map PyData.str)
  | [], _ => ⟨(fun d h => nomatch h), Nat.le_refl _, (fun d h => nomatch h)⟩
  | z :: w, h => by
    have g1 : Gd big 16 0 (.str z) := Gd.str (h z (List.mem_cons_self ..)).ok
    exact ((Gl'.one g1).app (strs_good w fun x hx => h x (List.mem_cons_of_mem _ hx))).mono (Nat.le_refl _) (by simp only [List.length_cons]; omega) (Nat.le_refl _)
theorem due_good {ys : List (Str × Int)} {ds : List PyData} {d : PyData} (sk : SetOk ys) (hp : ∀ d ∈ ds, plD ys (ds.length : Int) d) (d1 : 1 ≤ ds.length) (d16 : ds.length ≤ 16) (g : Gd (10 ^ 31) 1000 8 d) : (dueP ys ds d).showable = true ∧ (dueP ys ds d).depth ≤ 60 ∧ (dueP ys ds d).shown.length ≤ sizeLine := by
  have any : ∀ {e : PyData} {b : Nat}, Gd (10 ^ 31) 200000 b e → b ≤ 60 → e.showable = true ∧ e.depth ≤ 60 ∧ e.shown.length ≤ sizeLine := fun {e b} g hb => ⟨(g.shown (Nat.le_refl _)).1, Nat.le_trans g.dp hb, (g.shown (Nat.le_refl _)).2⟩
  cases hs : standD ys d with
  | true =>
    obtain ⟨st, e, so⟩ := stand_st hs
    subst e
    rw [due_st so]
    have gp : Gd (10 ^ 31) 400 1 (prowD (plainR ys ds st)) := by
      cases e : plainR ys ds st with
      | none => exact ⟨by decide, by decide, by decide⟩
      | some w =>
        obtain ⟨h1, h2⟩ := row_names so sk.nodup hp _ _ _ _ (show 0 < ds.length by omega) (fun z (hz : z ∈ ([] : List Str)) => nomatch hz) e
        simp at h2
        exact (Gd.tup (strs_good w h1)).mono (by decide) (by omega) (Nat.le_refl _)
    exact any ((Gd.lst (Gl'.one gp)).mono (Nat.le_refl _) (by decide) (Nat.le_refl _)) (by decide)
  | false =>
    rw [due_no hs]
    have h := shown_sOk g
    have g1 : Gd (10 ^ 31) 8 0 (.str "standing") := Gd.str ⟨by decide, by decide⟩
    exact any ((Gd.tup ((Gl'.one g1).app (Gl'.one (Gd.str h)))).mono (Nat.le_refl _) (by decide) (Nat.le_refl _)) (by decide)
end Ms
namespace Ms
open PySem PySem.Spec PyProof.Rows L2 RZ
section
variable {P : Program} {w : World} {K : PySem.W.Frag} {mg : Str → Option Value} {base : Heap} {fN fM fPl fPp C CS f : Addr} {cdv : Value} {fdPl fdPp : FuncData} {s : Shared} {H0 : Hp} {Eb : XK}
/-- behind the try -/
theorem law_judge (hrep : mg "repr" = none) (gPl : mg "_law_plain" = some (.ref fPl))
    (FPl : Fun K "_law_plain" "_law_plain" sPlain fPl fdPl) (bPl : Binds K fdPl ["spots", "places", "standing"] []) (GPl : FnOk P w K mg base CX0 2 fPl fdPl ["spots", "places", "standing"] (spLPlain K))
    (hr : Room 7 (callerA.deeper (envOfC "law" (defScope sLaw) s.heap.objs.size f cdv))) :
    ∃ t, PSs (cxOf CX0 P w K mg base NL "law" (defScope sLaw) f cdv callerA [] s H0 Eb).nox (bEach.drop 1) t ∧ ∀ (D : Ends) (H1 : Hp) (a m l : Addr) (n : Nat) (pS : Addr) (xs : List V) (ys : List (Str × Int)) (pP : Addr) (ps : List V) (ds : List PyData) (x dx : Addr) (vM : V) (pR : Addr) (rv : List V) (v tv : V) (d : PyData) (v2 v5 v10 v11 v12 : Option V),
      T9 K H1 m l n pS xs ys pP ps ds x C dx vM pR rv → Dq K H1 m l v d → Gd (10 ^ 31) 1000 8 d → Dq K H1 m l tv (dueP ys ds d) →
      (∀ (v11 : Option V) (H2 : Hp), Same H1 H2 → D.nx [some (.ref a), some (.ref m), v2, some (.ref pS), some (.ref pP), v5, some (.ref x), some (.ref pR), some v, some tv, v10, v11, v12] H2) →
      t D [some (.ref a), some (.ref m), v2, some (.ref pS), some (.ref pP), v5, some (.ref x), some (.ref pR), some v, some tv, v10, v11, v12] H1 := by
  have gA : (callerA.deeper (envOfC "law" (defScope sLaw) s.heap.objs.size f cdv)).guards = some [] := rfl
  have hr2 : Room 2 (callerA.deeper (envOfC "law" (defScope sLaw) s.heap.objs.size f cdv)) := hr.mono (by decide)
  refine ⟨_, pss_cons (ps_set (i := 11) scL.nd rfl (Or.inl rfl) (pe_tup (pa_cons pe_str (pa_cons (pe_callB (show CallR _ (.builtin "repr") (rReprD K) from call_reprD (by exact gA) (by exact hr.units)) (by rfl) hrep (id (by decide +kernel : PySem.bootBuiltins "repr" = some (Value.builtin "repr"))) (pa_cons (pv 8) pa_nil)) pa_nil))))
    (pss_cons (ps_if (pt_cmpR op_in_seq (pe_callB (show CallR _ (.builtin "repr") (rReprD K) from call_reprD (by exact gA) (by exact hr.units)) (by rfl) hrep (id (by decide +kernel : PySem.bootBuiltins "repr" = some (Value.builtin "repr"))) (pa_cons (pv 8) pa_nil)) (pe_lc (own := [("row", 12)]) (g := gName 12) (by rfl) scL.nd (pi_list (pv 7)) (blkOk_by (own := [("row", 12)]) (N := NL) (sc := defScope sLaw) (by decide +kernel))
        (fun _ _ _ _ _ => pg_name (i := 12) scL.nd rfl (Or.inl rfl)) (fun _ _ _ _ _ => pts_nil) (fun _ _ _ _ _ => pe_callB (show CallR _ (.builtin "repr") (rReprD K) from call_reprD (by exact gA) (by exact hr.units)) (by rfl) hrep (id (by decide +kernel : PySem.bootBuiltins "repr" = some (Value.builtin "repr"))) (pa_cons (pv 12) pa_nil))) (by rfl))
      (pss_one (ps_set (i := 11) scL.nd rfl (Or.inl rfl) (pe_lst (pa_cons (pe_call GPl hr2 (by rfl) gPl FPl.kp bPl .nil pass0 (pa_cons (pv 3) (pa_cons (pv 4) (pa_cons (pv 8) pa_nil)))) pa_nil)))) pss_nil)
    (pss_one (ps_if (pt_cmpR op_ne (pe_callB (show CallR _ (.builtin "repr") (rReprD K) from call_reprD (by exact gA) (by exact hr.units)) (by rfl) hrep (id (by decide +kernel : PySem.bootBuiltins "repr" = some (Value.builtin "repr"))) (pa_cons (pv 9) pa_nil)) (pe_callB (show CallR _ (.builtin "repr") (rReprD K) from call_reprD (by exact gA) (by exact hr.units)) (by rfl) hrep (id (by decide +kernel : PySem.bootBuiltins "repr" = some (Value.builtin "repr"))) (pa_cons (pv 11) pa_nil)) (nomark _)) (pss_one (ps_ret pe_bl)) pss_nil))), ?_⟩
  intro D H1 a m l n pS xs ys pP ps ds x dx vM pR rv v tv d v2 v5 v10 v11 v12 T dv gv dt nx
  have sh := (gv.shown (by decide))
  have dp : d.depth ≤ 60 := Nat.le_trans gv.dp (by decide)
  have shd := due_good T.so T.pl T.d1 T.d16 gv
  have l1 := T.so.len1
  have l3 := T.so.len3
  have lr := T.rq.len
  have g64 := grid_small ys l3 T.so.most
  refine ⟨_, rfl, v, d, m, l, rfl, dv, sh.1, dp, sh.2, (by show 2 ≤ sizeLine; decide), fun p2 hp2 => ?_⟩
  have s2 : Same H1 (upd H1 p2 (.tup [.str "standing", .str d.shown])) := Same.upd hp2
  have T2 := T.same s2
  have gp2 : (upd H1 p2 (.tup [.str "standing", .str d.shown])) p2 = some (.tup [.str "standing", .str d.shown]) := upd_same
  generalize eH2 : upd H1 p2 (.tup [.str "standing", .str d.shown]) = H2 at s2 T2 gp2 ⊢
  refine ⟨_, rfl, v, d, m, l, rfl, Dq.same s2 _ _ dv, sh.1, dp, sh.2, ?_⟩
  refine ⟨_, rfl, pR, rfl, ⟨_, SqL.of T2.rows⟩, fun Dl hDl => ?_⟩
  have nD : pR ≠ Dl := ne_of_none T2.rows hDl
  refine lc_it (walk_list (xs := rv)) (fun i H3 => H3 = upd H2 Dl (.lst ((((grid ys).take i).map rowS).map V.str))) rfl (fun i H3 _ e3 => SqL.of (by rw [e3, upd_ne nD]; exact T2.rows)) ?_ ?_
  · rintro i y H3 H4 hi e3 ⟨rfl, hy⟩
    obtain ⟨ar, r, rfl, hrr, hpr⟩ := T2.rq.get hy
    have s3 : Same H2 H4 := e3 ▸ Same.upd hDl
    have ti : (grid ys).take (i + 1) = (grid ys).take i ++ [r] := by rw [List.take_succ, hrr]; rfl
    have so : stOk ys r := (mem_grid fun q hq => (most_b T.so q hq).1).mp (List.mem_of_getElem? hrr)
    have gr : Gd (10 ^ 31) 1000 8 (.tuple (r.map .int)) := by
      have lr3 : r.length ≤ 3 := by rw [so.1]; exact l3
      have hb : ∀ z ∈ r, 0 ≤ z ∧ z < 16 := fun z hz => by
        obtain ⟨j, hj⟩ := List.mem_iff_getElem?.mp hz
        obtain ⟨b, _⟩ := List.getElem?_eq_some_iff.mp hj
        have hq : ys[j]? = some (ys[j]'(by rw [← so.1]; exact b)) := List.getElem?_eq_getElem _
        have h1 := so.2 j _ z hq hj
        have h2 := T.so.most _ (List.mem_of_getElem? hq)
        omega
      exact (Gd.tup (ints_good r hb)).mono (by decide) (by omega) (by decide)
    have shr := gr.shown (by decide)
    refine ⟨rfl, tyes ⟨_, rfl, .ref ar, .tuple (r.map .int), m, l, rfl, .tup (Same.seqT s3 hpr) (ints_dq r), shr.1, Nat.le_trans gr.dp (by decide), shr.2, _, by rw [e3]; exact upd_same, small1000 (by rw [List.length_map, List.length_map, List.length_take]; omega), ?_⟩⟩
    rw [e3, upd_upd, ti, List.map_append, List.map_append]
    rfl
  · rintro H3 e3
    rw [List.take_of_length_le (by omega)] at e3
    have s3 : Same H2 H3 := e3 ▸ Same.upd hDl
    have gD : H3 Dl = some (.lst (((grid ys).map rowS).map V.str)) := by rw [e3, upd_same]
    refine ⟨Dl, _, rfl, .inl (SqL.of gD), rfl, ?_, _, rfl, ?_⟩
    · rw [List.all_eq_true]
      intro z hz
      obtain ⟨y, _, rfl⟩ := List.mem_map.mp hz
      rfl
    rw [inV_str, in_rows (most_b T.so) l1]
    have T3 := T2.same s3
    have s13 := s2.trans s3
    have fin : ∀ (dv' : V) (H4 : Hp), Same H3 H4 → Dq K H4 m l dv' (dueP ys ds d) → ∃ y, some (some tv) = some (some y) ∧ ∃ (x : V) (d' : PyData) (m' l' : Addr), [y] = [x] ∧ Dq K H4 m' l' x d' ∧ d'.showable = true ∧ d'.depth ≤ 60 ∧ d'.shown.length ≤ sizeLine ∧ ∃ y2, some (some dv') = some (some y2) ∧ ∃ (x2 : V) (d2 : PyData) (m2 l2 : Addr), [y2] = [x2] ∧ Dq K H4 m2 l2 x2 d2 ∧ d2.showable = true ∧ d2.depth ≤ 60 ∧ d2.shown.length ≤ sizeLine ∧ d' = dueP ys ds d ∧ d2 = dueP ys ds d :=
      fun dv' H4 s4 h4 => ⟨_, rfl, tv, _, m, l, rfl, Dq.same (s13.trans s4) _ _ dt, shd.1, shd.2.1, shd.2.2, _, rfl, dv', _, m, l, rfl, h4, shd.1, shd.2.1, shd.2.2, rfl, rfl⟩
    clear fin
    cases hs : standD ys d with
    | false =>
      refine ifF rfl ?_
      have h4 : Dq K H3 m l (.ref p2) (dueP ys ds d) := by
        rw [due_no hs]
        exact .tup (.inl (.inl (s3 _ _ gp2))) (.cons (.str _) (.cons (.str _) .nil))
      exact ⟨_, rfl, tv, _, m, l, rfl, Dq.same s13 _ _ dt, shd.1, shd.2.1, shd.2.2, _, rfl, .ref p2, _, m, l, rfl, h4, shd.1, shd.2.1, shd.2.2, rfl, _, rfl, iteNS rfl (nx _ H3 s13)⟩
    | true =>
      refine ifT rfl ?_
      obtain ⟨st, ed, so⟩ := stand_st hs
      have hpT : ∃ pT, v = .ref pT ∧ SqT K H3 pT (st.map V.int) := by
        have := Dq.same s13 _ _ dv
        rw [ed] at this
        cases this with
        | tup e t => rw [ints_of t] at e; exact ⟨_, rfl, e⟩
      obtain ⟨pT, rfl, hT⟩ := hpT
      have edue := due_st (ds := ds) so
      rw [← ed] at edue
      have go : ∀ (pv : V) (H4 : Hp), Same H3 H4 → Dq K H4 m l pv (prowD (plainR ys ds st)) → ∀ p, H4 p = none → Dq K (upd H4 p (.lst [pv])) m l (.ref p) (dueP ys ds d) := fun pv H4 s4 h4 p hp => by
        have n4 := (T3.M.same s4).ne hp
        rw [edue]
        exact .lst upd_same n4.1 n4.2 (.cons (Dq.same (Same.upd hp) _ _ h4) .nil)
      refine ⟨_, rfl, _, rfl, _, rfl, m, l, pS, pP, pT, xs, ps, ys, ds, st, rfl, T3.s, prD_trs ys xs T3.xs_, l1, by omega, T.so.nodup, T3.p, T3.pd, T.pl, T.d1, T.d16, hT, so, fun en H4 s4 => ?_, fun row er pr H4 s4 gr => ?_⟩
      · refine ⟨(by show 1 ≤ sizeLine; decide), fun p hp => ?_⟩
        have h5 := go .non H4 s4 (by rw [en]; exact .non) p hp
        have s5 := s4.trans (Same.upd (o := .lst [.non]) hp)
        exact ⟨_, rfl, tv, _, m, l, rfl, Dq.same (s13.trans s5) _ _ dt, shd.1, shd.2.1, shd.2.2, _, rfl, .ref p, _, m, l, rfl, h5, shd.1, shd.2.1, shd.2.2, rfl, _, rfl, iteNS rfl (nx _ _ (s13.trans s5))⟩
      · refine ⟨(by show 1 ≤ sizeLine; decide), fun p hp => ?_⟩
        have hrow : DqAll K H4 m l (row.map V.str) (row.map PyData.str) := by
          clear er gr
          induction row with
          | nil => exact .nil
          | cons z row ih => exact .cons (.str z) ih
        have h5 := go (.ref pr) H4 s4 (by rw [er]; exact .tup gr hrow) p hp
        have s5 := s4.trans (Same.upd (o := .lst [.ref pr]) hp)
        exact ⟨_, rfl, tv, _, m, l, rfl, Dq.same (s13.trans s5) _ _ dt, shd.1, shd.2.1, shd.2.2, _, rfl, .ref p, _, m, l, rfl, h5, shd.1, shd.2.1, shd.2.2, rfl, _, rfl, iteNS rfl (nx _ _ (s13.trans s5))⟩
theorem law_each (hrep : mg "repr" = none) (gS : mg "BadStanding" = some (.ref CS)) (gPl : mg "_law_plain" = some (.ref fPl)) (xSS : PySem.W.exmOne K (.ref CS) (.ref CS) = some true) (TX : XfC K CS) (hno : PySem.W.findIn K (.ref CS) "value" = some none) (RC : ReqC K C)
    (FPl : Fun K "_law_plain" "_law_plain" sPlain fPl fdPl) (bPl : Binds K fdPl ["spots", "places", "standing"] []) (GPl : FnOk P w K mg base CX0 2 fPl fdPl ["spots", "places", "standing"] (spLPlain K))
    (mt : Meth K C "plain" fPp) (bPp : Binds K fdPp ["self", "standing"] []) (GPp : FnOk P w K mg base (L2.CX P w) 4 fPp fdPp ["self", "standing"] (spPPlain K C CS))
    (hr : Room 7 (callerA.deeper (envOfC "law" (defScope sLaw) s.heap.objs.size f cdv))) :
    ∃ t, PSs (cxOf CX0 P w K mg base NL "law" (defScope sLaw) f cdv callerA [] s H0 Eb).nox bEach t ∧ ∀ (D : Ends) (H1 : Hp) (a m l : Addr) (n : Nat) (pS : Addr) (xs : List V) (ys : List (Str × Int)) (pP : Addr) (ps : List V) (ds : List PyData) (x dx : Addr) (vM : V) (pR : Addr) (rv : List V) (v : V) (d : PyData) (v2 v5 v9 v10 v11 v12 : Option V),
      T9 K H1 m l n pS xs ys pP ps ds x C dx vM pR rv → Dq K H1 m l v d → Gd (10 ^ 31) 1000 8 d →
      (∀ (v9 v10 v11 : Option V) (H2 : Hp), Same H1 H2 → D.nx [some (.ref a), some (.ref m), v2, some (.ref pS), some (.ref pP), v5, some (.ref x), some (.ref pR), some v, v9, v10, v11, v12] H2) →
      t D [some (.ref a), some (.ref m), v2, some (.ref pS), some (.ref pP), v5, some (.ref x), some (.ref pR), some v, v9, v10, v11, v12] H1 := by
  have gA : (callerA.deeper (envOfC "law" (defScope sLaw) s.heap.objs.size f cdv)).guards = some [] := rfl
  have hr4 : Room 4 (callerA.deeper (envOfC "law" (defScope sLaw) s.heap.objs.size f cdv)) := hr.mono (by decide)
  obtain ⟨tJ, dJ, zJ⟩ := law_judge (H0 := H0) (s := s) (f := f) (cdv := cdv) (C := C) (Eb := Eb) hrep gPl FPl bPl GPl hr
  refine ⟨_, pss_cons (ps_try_as (X := (cxOf CX0 P w K mg base NL "law" (defScope sLaw) f cdv callerA [] s H0 Eb).nox) (c := .ref CS) (i := 10) (Wout := fun _ _ _ _ => False) rfl rfl scL.nd rfl rfl ⟨by rfl, by decide, .inl gS⟩ noTake
      (fun W pn xe tk _ => pss_one (ps_set (i := 9) scL.nd rfl (Or.inl rfl) (pe_lst (pa_cons (pe_methS (E := WE W) (pv 6) RC.cl mt GPp (by exact hr4) bPp (fun σ => passAt tk σ) (pa_cons (pv 8) pa_nil)) pa_nil))))
      (fun a oe cls d pn hz hf => pss_one (ps_set (i := 9) scL.nd rfl (Or.inl rfl) (pe_tup (pa_cons pe_str (pa_cons (pe_callB (show CallR _ (.builtin "repr") (rReprD K) from call_reprD (by exact gA) (by exact hr.units)) (by rfl) hrep (id (by decide +kernel : PySem.bootBuiltins "repr" = some (Value.builtin "repr"))) (pa_cons (pe_xf TX hno hz hf (pv 10)) pa_nil)) pa_nil))))))
    dJ, ?_⟩
  intro D H1 a m l n pS xs ys pP ps ds x dx vM pR rv v d v2 v5 v9 v10 v11 v12 T dv gv nx
  have sh := (gv.shown (by decide))
  have dp : d.depth ≤ 60 := Nat.le_trans gv.dp (by decide)
  have l3 := T.so.len3
  refine ⟨_, rfl, x, dx, _, rfl, T.one, rfl, _, rfl, ?_⟩
  refine ⟨m, l, x, dx, pS, pP, xs, ps, ys, ds, vM, v, d, rfl, T.one, T.s, prD_trs ys xs T.xs_, by omega, T.so.nodup, T.p, T.pd, T.pl, T.d1, T.d16, dv, fun st ed so => ⟨fun en H2 s2 => ?_, fun row er p H2 s2 g2 => ?_⟩, fun hs e H2 he s2 g2 => ?_⟩
  · refine ⟨(by show 1 ≤ sizeLine; decide), fun p hp => ?_⟩
    have s3 := s2.trans (Same.upd (o := .lst [.non]) hp)
    have n3 := (T.M.same s2).ne hp
    have dt : Dq K (upd H2 p (.lst [.non])) m l (.ref p) (dueP ys ds d) := by
      rw [ed, due_st so, en]
      exact .lst upd_same n3.1 n3.2 (.cons .non .nil)
    exact zJ D _ a m l n pS xs ys pP ps ds x dx vM pR rv v (.ref p) d v2 v5 v10 v11 v12 (T.same s3) (Dq.same s3 _ _ dv) gv dt fun v11 H4 s4 => nx _ _ _ H4 (s3.trans s4)
  · refine ⟨(by show 1 ≤ sizeLine; decide), fun p3 hp => ?_⟩
    have s3 := s2.trans (Same.upd (o := .lst [.ref p]) hp)
    have n3 := (T.M.same s2).ne hp
    have hrow : ∀ (row : List Str) (G : Hp), DqAll K G m l (row.map V.str) (row.map PyData.str) := fun row G => by
      induction row with
      | nil => exact .nil
      | cons z row ih => exact .cons (.str z) ih
    have dt : Dq K (upd H2 p3 (.lst [.ref p])) m l (.ref p3) (dueP ys ds d) := by
      rw [ed, due_st so, er]
      exact .lst upd_same n3.1 n3.2 (.cons (.tup (Same.seqT (Same.upd hp) (.inl (.inl g2))) (hrow row _)) .nil)
    exact zJ D _ a m l n pS xs ys pP ps ds x dx vM pR rv v (.ref p3) d v2 v5 v10 v11 v12 (T.same s3) (Dq.same s3 _ _ dv) gv dt fun v11 H4 s4 => nx _ _ _ H4 (s3.trans s4)
  · refine ⟨true, xSS, fun _ a' na => ?_, fun z => nomatch z⟩
    have h2 := Dq.same s2 _ _ dv
    refine ⟨_, rfl, rfl, rfl, e, _, _, rfl, g2, rfl, v, d, m, l, rfl, h2, sh.1, dp, sh.2, (by show 2 ≤ sizeLine; decide), fun p hp => ?_⟩
    have s3 := s2.trans (Same.upd (o := .tup [.str "standing", .str d.shown]) hp)
    have dt : Dq K (upd H2 p (.tup [.str "standing", .str d.shown])) m l (.ref p) (dueP ys ds d) := by
      rw [due_no hs]
      exact .tup (.inl (.inl upd_same)) (.cons (.str _) (.cons (.str _) .nil))
    exact zJ D _ a m l n pS xs ys pP ps ds x dx vM pR rv v (.ref p) d v2 v5 none v11 v12 (T.same s3) (Dq.same s3 _ _ dv) gv dt fun v11 H4 s4 => nx _ _ _ H4 (s3.trans s4)
end
end Ms
namespace Ms
open PySem PySem.Spec PyProof.Rows L2
/-! ### a request of drawn things is made -/
theorem nextsD_ok {n k : Int} {ns : List Int} (hl : (ns.length : Int) = k + 1) (hx : ∀ x ∈ ns, 0 ≤ x ∧ x < n) : nextsD n k (.tuple (ns.map .int)) = true := by
  show (decide (((ns.map PyData.int).length : Int) = k + 1) && (ns.map PyData.int).all fun e => isWhole e 0 (n - 1)) = true
  rw [List.length_map, decide_eq_true hl, Bool.true_and, List.all_eq_true]
  intro e he
  obtain ⟨x, h, rfl⟩ := List.mem_map.mp he
  have := hx x h
  show (decide (0 ≤ x) && decide (x ≤ n - 1)) = true
  rw [decide_eq_true this.1, decide_eq_true (show x ≤ n - 1 by omega)]; rfl
theorem askD_ok {n : Int} {q : Str × Int} {d2 : PyData} : ∀ {qs : List (Str × Int)}, q ∈ qs → (qs.map (·.1)).Nodup → nextsD n q.2 d2 = true → askD n (.str q.1) d2 qs = true
  | [], h, _, _ => nomatch h
  | q' :: qs, h, hn, hx => by
    unfold askD
    by_cases e : q.1 = q'.1
    · rw [if_pos (by show (q.1 == q'.1) = true; rw [e]; exact beq_self_eq_true _)]
      rcases List.mem_cons.mp h with rfl | h
      · exact hx
      · rw [List.map_cons, List.nodup_cons] at hn
        exact absurd (by rw [← e]; exact List.mem_map_of_mem h) hn.1
    · rw [if_neg (by show ¬ (q.1 == q'.1) = true; simpa using e)]
      rcases List.mem_cons.mp h with rfl | h
      · exact absurd rfl e
      · rw [List.map_cons, List.nodup_cons] at hn
        exact askD_ok h hn.2 hx
theorem placeD_ok {qs : List (Str × Int)} {many : Int} {d : PyData} (hn : (qs.map (·.1)).Nodup) (p : plD qs many d) : placeD qs many d = true := by
  rcases p with rfl | ⟨z, r, rfl, hz, h0, h1⟩ | ⟨q, hq, ns, rfl, hl, hx⟩
  · rfl
  · have e : placeD qs many (.tuple [.str "do", .str z, .int r]) = (isName (.str z) && isWhole (.int r) 0 (many - 1)) := by
      unfold placeD
      exact if_pos ⟨rfl, (by decide : isTxt (.str "do") "do" = true)⟩
    rw [e, nm_name hz]
    show (true && (decide (0 ≤ r) && decide (r ≤ many - 1))) = true
    rw [decide_eq_true h0, decide_eq_true (show r ≤ many - 1 by omega)]; rfl
  · have e : placeD qs many (.tuple [.str "ask", .str q.1, .tuple (ns.map .int)]) = askD many (.str q.1) (.tuple (ns.map .int)) qs := by
      unfold placeD
      exact (if_neg (fun h => absurd (show isTxt (.str "ask") "do" = true from h.2) (by decide))).trans (if_pos ⟨rfl, (by decide : isTxt (.str "ask") "ask" = true)⟩)
    rw [e]
    exact askD_ok hq hn (nextsD_ok hl hx)
theorem firstBad_no {f : PyData → Bool} : ∀ (ds : List PyData) (p : Nat), (∀ d ∈ ds, f d = true) → firstBad f p ds = none
  | [], _, _ => rfl
  | d :: ds, p, h => by
    unfold firstBad
    rw [if_pos (h d (List.mem_cons_self ..))]
    exact firstBad_no ds _ fun x hx => h x (List.mem_cons_of_mem _ hx)
theorem places_no {qs : List (Str × Int)} {ds : List PyData} (hn : (qs.map (·.1)).Nodup) (h1 : 1 ≤ ds.length) (h16 : ds.length ≤ 16) (hp : ∀ d ∈ ds, plD qs (ds.length : Int) d) : placesV qs (.tuple ds) = none := by
  show (if 1 ≤ ds.length ∧ ds.length ≤ 16 then (firstBad (placeD qs ds.length) 0 ds).map fun p => V.int (p : Nat) else some .non) = none
  rw [if_pos ⟨h1, h16⟩, firstBad_no ds 0 fun d hd => placeD_ok hn (hp d hd)]; rfl
theorem modes_no {k : Nat} {zs : List Str} (hl : zs.length = k) (hz : ∀ z ∈ zs, z ∈ (["live", "met", "begin"] : List Str)) : modesV k (.tuple (zs.map .str)) = none := by
  show (if (zs.map PyData.str).length = k then (firstBad isMode 0 (zs.map PyData.str)).map fun p => V.int (p : Nat) else some .non) = none
  rw [List.length_map, if_pos hl, firstBad_no _ 0 fun d hd => ?_]
  · rfl
  · obtain ⟨z, h, rfl⟩ := List.mem_map.mp hd
    exact decide_eq_true (hz z h)
theorem prD_inj' : ∀ {qs ys : List (Str × Int)}, prD qs = prD ys → qs = ys
  | [], [], _ => rfl
  | [], _ :: _, h => by cases h
  | _ :: _, [], h => by cases h
  | (a, b) :: qs, (c, e) :: ys, h => by
    have h' : PyData.tuple [.str a, .int b] :: prD qs = .tuple [.str c, .int e] :: prD ys := h
    injection h' with h1 h2
    injection h1 with h3
    injection h3 with h4 h5
    injection h5 with h6 h7
    injection h4 with h8
    injection h6 with h9
    rw [h8, h9, prD_inj' h2]
theorem req_okQ {K : PySem.W.Frag} {C CS CP CM x dx : Addr} {H3 : Hp} {Q : VK} {E : XK} {m l : Addr} {v1 v2 v3 : V} {ys : List (Str × Int)} {d2 d3 : PyData} {B1 b1 B2 b2 : Nat} (so : SetOk ys) (h1 : Dq K H3 m l v1 (.tuple (prD ys))) (g1 : Gd B1 100000 b1 (.tuple (prD ys)))
    (h2 : Dq K H3 m l v2 d2) (g2 : Gd B2 100000 b2 d2) (h3 : Dq K H3 m l v3 d3) (hp : placesV ys d2 = none) (hm : modesV ys.length (wordsD ys.length d3) = none) (hx : H3 x = none) (hdx : H3 dx = none) (ne : dx ≠ x)
    (hQ : ∀ (v3' : V) (H' : Hp), Same H3 H' → H' x = some (.ins C dx (reqF v1 v2 v3')) → Dq K H' m l v3' (wordsD ys.length d3) → Q .non H') : spReq K C CS CP CM [.ref x, v1, v2, v3] (upd (upd H3 dx (.own x)) x (.ins C dx [])) Q E := by
  have s0 : Same H3 (upd (upd H3 dx (.own x)) x (.ins C dx [])) := (Same.upd hdx).trans (Same.upd (by rw [upd_ne ne.symm]; exact hx))
  have xs : ∀ {H'}, SameX x (upd (upd H3 dx (.own x)) x (.ins C dx [])) H' → Same H3 H' := fun k b o e => k b o (ne_of_none e hx) (s0 b o e)
  refine ⟨m, l, x, dx, v1, v2, v3, .tuple (prD ys), d2, d3, B1, b1, B2, b2, rfl, upd_same, Dq.same s0 _ _ h1, g1, Dq.same s0 _ _ h2, g2, Dq.same s0 _ _ h3, (fun u hu => by rw [so.need] at hu; cases hu), fun _ qs eq => ?_⟩
  have eq' : qs = ys := (prD_inj' (PyData.tuple.inj eq)).symm
  subst eq'
  exact ⟨fun u hu => (by rw [hp] at hu; cases hu), fun _ => ⟨fun u hu => (by rw [hm] at hu; cases hu), fun _ H' v3' k hd dq3 => hQ v3' H' (xs k) hd dq3⟩⟩
end Ms
namespace Ms
open PySem PySem.Spec PyProof.Rows L2
/-! ### data without dicts, compared with itself -/
mutual
def noDi : PyData → Bool
  | .dict _ => false
  | .list xs | .tuple xs => noDiAll xs
  | _ => true
def noDiAll : List PyData → Bool
  | [] => true
  | x :: xs => noDi x && noDiAll xs
end
theorem noDi_all {xs : List PyData} (h : ∀ x ∈ xs, noDi x = true) : noDiAll xs = true := by
  induction xs with
  | nil => rfl
  | cons x xs ih => simp only [noDiAll, h x (List.mem_cons_self ..), ih fun y hy => h y (List.mem_cons_of_mem _ hy), Bool.and_self]
mutual
theorem lay_of {B : Nat} : ∀ d : PyData, okD B d = true → noDi d = true → d.canLay0 = true
  | .none, _, _ => rfl
  | .bool _, _, _ => rfl
  | .int _, _, _ => rfl
  | .str x, e, _ => by
    simp only [okD, List.all_eq_true, decide_eq_true_eq] at e
    show x.cps.all (· < 0x110000) = true
    rw [← Array.all_toList, List.all_eq_true]
    exact fun c hc => decide_eq_true (e c hc)
  | .list xs, e, n => by
    simp only [okD] at e
    simp only [noDi] at n
    exact layAll_of xs e n
  | .tuple xs, e, n => by
    simp only [okD] at e
    simp only [noDi] at n
    exact layAll_of xs e n
  | .dict _, _, n => by simp [noDi] at n
theorem layAll_of {B : Nat} : ∀ xs : List PyData, okAll B xs = true → noDiAll xs = true → PyData.canLayAll0 xs = true
  | [], _, _ => rfl
  | x :: xs, e, n => by
    simp only [okAll, Bool.and_eq_true] at e
    simp only [noDiAll, Bool.and_eq_true] at n
    show (x.canLay0 && PyData.canLayAll0 xs) = true
    rw [lay_of x e.1 n.1, layAll_of xs e.2 n.2]; rfl
end
theorem shaped_of {B a b : Nat} {d : PyData} (g : Gd B a b d) (n : noDi d = true) (hb : b ≤ 60) : SeqAt.shaped d = true := by
  unfold SeqAt.shaped
  rw [lay_of d g.ok n, decide_eq_true (by have := g.dp; omega)]; rfl
mutual
theorem Dq.dp {K : PySem.W.Frag} {H : Hp} {m l : Addr} : ∀ (d : PyData) (v : V), Dq K H m l v d → noDi d = true → Dp K H v d
  | .none, _, h, _ => by cases h; exact .non
  | .bool b, _, h, _ => by cases h; exact .bl b
  | .int i, _, h, _ => by cases h; exact .int i
  | .str x, _, h, _ => by cases h; exact .str x
  | .list ds, _, h, n => by
    simp only [noDi] at n
    cases h with
    | lst e _ _ t => exact .lst (SqL.of e) (DqAll.dp ds _ t n)
  | .tuple ds, _, h, n => by
    simp only [noDi] at n
    cases h with
    | tup e t => exact .tup e (DqAll.dp ds _ t n)
  | .dict _, _, h, n => by simp [noDi] at n
theorem DqAll.dp {K : PySem.W.Frag} {H : Hp} {m l : Addr} : ∀ (ds : List PyData) (vs : List V), DqAll K H m l vs ds → noDiAll ds = true → DpAll K H vs ds
  | [], _, h, _ => by cases h; exact .nil
  | d :: ds, _, h, n => by
    simp only [noDiAll, Bool.and_eq_true] at n
    cases h with
    | cons h1 h2 => exact .cons (Dq.dp d _ h1 n.1) (DqAll.dp ds _ h2 n.2)
end
theorem ne_self {K : PySem.W.Frag} {H : Hp} {m l : Addr} {v u : V} {d : PyData} {B a b : Nat} {Q : VK} (h1 : Dq K H m l v d) (h2 : Dq K H m l u d) (g : Gd B a b d) (n : noDi d = true) (hb : b ≤ 60) (q : Q (.bl false) H) : rNeD K v u H Q :=
  ⟨d, d, h1.dp d v n, h2.dp d u n, shaped_of g n hb, shaped_of g n hb, by rw [SeqAt.eqv_refl d (lay_of d g.ok n)]; exact q⟩
end Ms
namespace Ms
open PySem PySem.Spec PyProof.Rows L2 RZ
theorem spots_good9 {ys : List (Str × Int)} (so : SetOk ys) : Gd (10 ^ 31) 600 2 (.tuple (prD ys)) := by
  have key : ∀ ys : List (Str × Int), okP ys → Gl' big (123 * ys.length) 1 (prD ys) := by
    intro ys
    induction ys with
    | nil => exact fun _ => ⟨(fun d h => nomatch h), Nat.le_refl _, (fun d h => nomatch h)⟩
    | cons q ys ih =>
      intro h
      obtain ⟨h1, h2, h3⟩ := h q (List.mem_cons_self ..)
      have g1 : Gd big 16 0 (.str q.1) := Gd.str h1
      have g2 : Gd big 104 0 (.int q.2) := Gd.int (by show q.2.natAbs ≤ 10 ^ 30; omega) (by decide)
      have g := Gd.tup ((Gl'.one g1).app (Gl'.one g2))
      have r := (Gl'.one g).app (ih fun x hx => h x (List.mem_cons_of_mem _ hx))
      exact r.mono (Nat.le_refl _) (by simp only [List.length_cons]; omega) (Nat.le_refl _)
  have := so.len3
  exact (Gd.tup (key ys so.okP)).mono (by decide) (by omega) (Nat.le_refl _)
theorem noDi_place {qs : List (Str × Int)} {many : Int} {d : PyData} (p : plD qs many d) : noDi d = true := by
  rcases p with rfl | ⟨z, r, rfl, _⟩ | ⟨q, _, ns, rfl, _⟩
  · rfl
  · rfl
  · show (true && (true && (noDiAll (ns.map PyData.int) && true))) = true
    have : noDiAll (ns.map PyData.int) = true := noDi_all fun x hx => by
      obtain ⟨y, _, rfl⟩ := List.mem_map.mp hx
      rfl
    rw [this]; rfl
theorem T9.step {K : PySem.W.Frag} {H H' : Hp} {m l l' : Addr} {n n' : Nat} {pS : Addr} {xs : List V} {ys : List (Str × Int)} {pP : Addr} {ps : List V} {ds : List PyData} {x C dx : Addr} {vM : V} {pR : Addr} {rv : List V} (f : Fr m l l' H H') (M' : Mch H' m l' n') (nl : pR ≠ l) (T : T9 K H m l n pS xs ys pP ps ds x C dx vM pR rv) : T9 K H' m l' n' pS xs ys pP ps ds x C dx vM pR rv ∧ pR ≠ l' := by
  have k := T.M.step f
  obtain ⟨z1, e1⟩ := k.am
  obtain ⟨z2, e2⟩ := k.al
  refine ⟨⟨M', T.so, k.tup T.s, DqAll.step k _ _ T.xs_, k.tup T.p, DqAll.step k _ _ T.pd, T.pl, T.d1, T.d16, T.nms, k.keep _ _ T.one (ne_of T.one e1 (by intro z; cases z)) (ne_of T.one e2 (by intro z; cases z)), k.keep _ _ T.rows (ne_of T.rows e1 (by intro z; cases z)) nl, T.rq.gen fun a xs h => k.tup h⟩, k.ne _ _ T.rows nl⟩
section
variable {P : Program} {w : World} {K : PySem.W.Frag} {mg : Str → Option Value} {base : Heap} {fN fM fO fB fSe fPc fMd fLs fPl fPp fR C CS CP CM CB f : Addr} {cdv : Value} {fdN fdB fdO fdS fdPc fdMd fdLs fdPl fdPp fdR : FuncData} {s : Shared} {H0 : Hp} {Eb : XK}
/-- the loop, and what follows it -/
theorem law_loop {tE : TS} (T0 : TxtB mg fN fM fO fB) (RC : ReqC K C) (FN : Fun K "_law_next" "_law_next" sNext fN fdN) (bN : Binds K fdN ["m", "many"] [])
    (FB : Fun K "_law_bent" "_law_bent" sBent fB fdB) (bB : Binds K fdB ["m", "thing"] []) (GB : FnOk P w K mg base CX0 7 fB fdB ["m", "thing"] (spBent K 5))
    (FO : Fun K "_law_odd" "_law_odd" sOdd fO fdO) (bO : Binds K fdO ["m"] []) (GO : FnOk P w K mg base CX0 2 fO fdO ["m"] (spOdd K))
    (hr : Room 7 (callerA.deeper (envOfC "law" (defScope sLaw) s.heap.objs.size f cdv)))
    (dE : PSs (cxOf CX0 P w K mg base NL "law" (defScope sLaw) f cdv callerA [] s H0 Eb).nox bEach tE)
    (zE : ∀ (D : Ends) (H1 : Hp) (a m l : Addr) (n : Nat) (pS : Addr) (xs : List V) (ys : List (Str × Int)) (pP : Addr) (ps : List V) (ds : List PyData) (x dx : Addr) (vM : V) (pR : Addr) (rv : List V) (v : V) (d : PyData) (v2 v5 v9 v10 v11 v12 : Option V),
      T9 K H1 m l n pS xs ys pP ps ds x C dx vM pR rv → Dq K H1 m l v d → Gd (10 ^ 31) 1000 8 d →
      (∀ (v9 v10 v11 : Option V) (H2 : Hp), Same H1 H2 → D.nx [some (.ref a), some (.ref m), v2, some (.ref pS), some (.ref pP), v5, some (.ref x), some (.ref pR), some v, v9, v10, v11, v12] H2) →
      tE D [some (.ref a), some (.ref m), v2, some (.ref pS), some (.ref pP), v5, some (.ref x), some (.ref pR), some v, v9, v10, v11, v12] H1) :
    ∃ t, PSs (cxOf CX0 P w K mg base NL "law" (defScope sLaw) f cdv callerA [] s H0 Eb).nox (bTurn.drop 3) t ∧ ∀ (D : Ends) (H1 : Hp) (a m l : Addr) (n : Nat) (pS : Addr) (xs : List V) (ys : List (Str × Int)) (pP : Addr) (ps : List V) (ds : List PyData) (x dx : Addr) (vM : V) (pR : Addr) (rv : List V) (pW : Addr) (zs : List Str) (v2 v8 v9 v10 v11 v12 : Option V),
      T9 K H1 m l n pS xs ys pP ps ds x C dx vM pR rv → pR ≠ l → n < 300000 → Gd big 7500 3 (.tuple ds) → Dq K H1 m l (.ref pW) (.tuple (zs.map .str)) → Dq K H1 m l vM (.tuple (zs.map .str)) → (∀ z ∈ zs, z ∈ (["live", "met", "begin"] : List Str)) → zs.length ≤ 3 →
      (∀ (v8 v9 v10 v11 : Option V) (l' : Addr) (H2 : Hp), Mch H2 m l' (n + 50) → D.nx [some (.ref a), some (.ref m), v2, some (.ref pS), some (.ref pP), some (.ref pW), some (.ref x), some (.ref pR), v8, v9, v10, v11, v12] H2) →
      t D [some (.ref a), some (.ref m), v2, some (.ref pS), some (.ref pP), some (.ref pW), some (.ref x), some (.ref pR), v8, v9, v10, v11, v12] H1 := by
  have hr1 : Room 1 (callerA.deeper (envOfC "law" (defScope sLaw) s.heap.objs.size f cdv)) := hr.mono (by decide)
  have hr2 : Room 2 (callerA.deeper (envOfC "law" (defScope sLaw) s.heap.objs.size f cdv)) := hr.mono (by decide)
  have GN : FnOk P w K mg base CX0 1 fN fdN ["m", "many"] spNext := ok_next FN T0.toTxt
  refine ⟨_, pss_cons (ps_for PassesOwn.never rfl (pi_list (pe_op op_cat (pv 7) (pe_lst (pa_cons (pe_call GB hr (by rfl) T0.bent FB.kp bB .nil pass0 (pa_cons (pv 1) (pa_cons (pe_ix (show IxR _ (rIxL K) from ix_list) (pv 7) (pe_call GN hr1 (by rfl) T0.next FN.kp bN .nil pass0 (pa_cons (pv 1) (pa_cons (pe_callB call_len_seq (by rfl) T0.len PySem.boot_len (pa_cons (pv 7) pa_nil)) pa_nil))) (fun _ _ => rfl)) pa_nil)))
      (pa_cons (pe_call GO hr2 (by rfl) T0.odd FO.kp bO .nil pass0 (pa_cons (pv 1) pa_nil)) pa_nil))))) (pg_name (i := 8) scL.nd rfl (Or.inl rfl)) dE)
    (pss_one (ps_if (PW.pt (pw_or (pt_cmpR (op_neD hr.units) (pe_fld (pv 6) rfl) (pv 4) (nomark _)) (pw_or1 (pt_cmpR (op_neD hr.units) (pe_fld (pv 6) rfl) (pv 5) (nomark _))))) (pss_one (ps_ret pe_bl)) pss_nil)), ?_⟩
  intro D H1 a m l n pS xs ys pP ps ds x dx vM pR rv pW zs v2 v8 v9 v10 v11 v12 T nl hn gP hW hM hz lz nx
  have l1 := T.so.len1
  have l3 := T.so.len3
  have lr := T.rq.len
  have g64 := grid_small ys l3 T.so.most
  have gpos : 1 ≤ (grid ys).length := by
    have e := grid_many ys T.so.most
    have : 1 ≤ many ys := by
      have key : ∀ (qs : List (Str × Int)) (k : Int), 1 ≤ k → (∀ q ∈ qs, 1 ≤ q.2 ∧ q.2 ≤ 3) → 1 ≤ qs.foldl (fun m q => m * (q.2 + 1)) k := by
        intro qs
        induction qs with
        | nil => exact fun k h _ => h
        | cons q qs ih =>
          intro k hk h
          have hq := h q (List.mem_cons_self ..)
          refine ih _ ?_ fun y hy => h y (List.mem_cons_of_mem _ hy)
          have := Int.mul_le_mul hk (show (1 : Int) ≤ q.2 + 1 by omega) (by decide) (by omega)
          simpa using this
      exact key ys 1 (by decide) T.so.most
    omega
  refine ⟨_, rfl, _, rfl, _, rfl, _, rfl, _, rfl, pR, _, rfl, .inl (SqL.of T.rows), ?_⟩
  refine ⟨m, l, n, (rv.length : Int), rfl, T.M, by omega, by omega, by omega, fun r l2 H2 r0 r1 M2 f2 => ?_⟩
  obtain ⟨j, rfl⟩ : ∃ j : Nat, r = (j : Int) := ⟨r.toNat, by omega⟩
  obtain ⟨T2, nl2⟩ := T.step f2 M2 nl
  have k2 := T.M.step f2
  obtain ⟨y, hy⟩ : ∃ y, rv[j]? = some y := ⟨_, List.getElem?_eq_getElem (by omega)⟩
  obtain ⟨ar, rr, rfl, hrr, hpr⟩ := T2.rq.get hy
  refine ⟨pR, rv, (j : Int), .ref ar, rfl, rfl, SqL.of T2.rows, atI_nat hy, ?_⟩
  have row_good : ∀ r ∈ grid ys, Gd big 400 1 (.tuple (r.map .int)) := fun r hr => by
    have so : stOk ys r := (mem_grid fun q hq => (most_b T.so q hq).1).mp hr
    have lr3 : r.length ≤ 3 := by rw [so.1]; exact l3
    have hb : ∀ z ∈ r, 0 ≤ z ∧ z < 16 := fun z hz => by
      obtain ⟨j, hj⟩ := List.mem_iff_getElem?.mp hz
      obtain ⟨b, _⟩ := List.getElem?_eq_some_iff.mp hj
      have hq : ys[j]? = some (ys[j]'(by rw [← so.1]; exact b)) := List.getElem?_eq_getElem _
      have h1 := so.2 j _ z hq hj
      have h2 := T.so.most _ (List.mem_of_getElem? hq)
      omega
    exact (Gd.tup (ints_good r hb)).mono (Nat.le_refl _) (by omega) (Nat.le_refl _)
  have grr := row_good rr (List.mem_of_getElem? hrr)
  refine ⟨m, l2, n + 1, .ref ar, .tuple (rr.map .int), big, 400, 1, rfl, M2, (by show n + 1 + 8 * 5 < 700000; omega), .tup hpr (ints_dq rr), grr, Nat.le_refl _, by decide, by decide, Nat.le_trans grr.dp (by decide), fun y1 e1 l3' H3 q1 g1 M3 f3 => ?_⟩
  obtain ⟨T3, nl3⟩ := T2.step f3 M3 nl2
  have k3 := M2.step f3
  refine ⟨_, rfl, m, l3', n + 1 + 8 * 5, rfl, M3, by omega, fun y5 e5 l5 H5 q5 g5 M5 f5 => ?_⟩
  obtain ⟨T5, nl5⟩ := T3.step f5 M5 nl3
  have k5 := M3.step f5
  refine ⟨(by show 2 ≤ sizeLine; decide), fun pL hL => ?_⟩
  have sL : Same H5 (upd H5 pL (.lst [y1, y5])) := Same.upd hL
  refine ⟨pR, pL, _, _, rfl, rfl, sL _ _ T5.rows, upd_same, Nat.le_of_lt (small1000 (by simp; omega)), fun pI hI => ?_⟩
  have sI : Same (upd H5 pL (.lst [y1, y5])) (upd (upd H5 pL (.lst [y1, y5])) pI (.lst (rv ++ [y1, y5]))) := Same.upd hI
  have s5 := sL.trans sI
  obtain ⟨G, eG⟩ : ∃ G, G = upd (upd H5 pL (.lst [y1, y5])) pI (.lst (rv ++ [y1, y5])) := ⟨_, rfl⟩
  rw [← eG] at s5 ⊢
  have gI : G pI = some (.lst (rv ++ [y1, y5])) := by rw [eG, upd_same]
  clear eG sI
  have T6 := T5.same s5
  have it : ∀ v ∈ rv ++ [y1, y5], ∃ d, Dq K G m l5 v d ∧ Gd (10 ^ 31) 1000 8 d := fun v hv => by
    rcases List.mem_append.mp hv with hv | hv
    · obtain ⟨i, hi⟩ := List.mem_iff_getElem?.mp hv
      obtain ⟨a2, r2, rfl, h2, h3⟩ := T6.rq.get hi
      exact ⟨_, .tup h3 (ints_dq r2), (row_good r2 (List.mem_of_getElem? h2)).mono (by decide) (by decide) (by decide)⟩
    · simp only [List.mem_cons, List.mem_nil_iff, or_false] at hv
      rcases hv with rfl | rfl
      · exact ⟨e1, Dq.same s5 _ _ (Dq.step k5 _ _ q1), g1.mono (by decide) (by decide) (by decide)⟩
      · exact ⟨e5, Dq.same s5 _ _ q5, g5.mono (by decide) (by decide) (by decide)⟩
  have hW6 := Dq.same s5 _ _ (Dq.step k5 _ _ (Dq.step k3 _ _ (Dq.step k2 _ _ hW)))
  have hM6 := Dq.same s5 _ _ (Dq.step k5 _ _ (Dq.step k3 _ _ (Dq.step k2 _ _ hM)))
  refine ⟨pI, rfl, ⟨_, SqL.of gI⟩, for_list (K := K) (a := pI) (xs := rv ++ [y1, y5]) (fun i σ H7 => ∃ (v8 v9 v10 v11 : Option V), σ = [some (.ref a), some (.ref m), v2, some (.ref pS), some (.ref pP), some (.ref pW), some (.ref x), some (.ref pR), v8, v9, v10, v11, v12] ∧ Same G H7)
    ⟨_, _, _, _, rfl, Same.refl G⟩ (fun i σ H7 _ ⟨_, _, _, _, _, s7⟩ => SqL.of (s7 _ _ gI)) ?_ ?_⟩
  · rintro i y σ H7 hi ⟨v8, v9, v10, v11, rfl, s7⟩
    obtain ⟨d, h1, h2⟩ := it y (List.mem_of_getElem? hi)
    exact zE _ H7 a m l5 _ pS xs ys pP ps ds x dx vM pR rv y d v2 _ _ _ _ _ (T6.same s7) (Dq.same s7 _ _ h1) h2 fun v9 v10 v11 H8 s8 => ⟨_, v9, v10, v11, rfl, s7.trans s8⟩
  · rintro σ H7 ⟨v8, v9, v10, v11, rfl, s7⟩
    have T7 := T6.same s7
    have hPd : Dq K H7 m l5 (.ref pP) (.tuple ds) := .tup T7.p T7.pd
    have nP : noDi (.tuple ds) = true := noDi_all fun d hd => noDi_place (T.pl d hd)
    have nW : noDi (.tuple (zs.map .str)) = true := noDi_all fun d hd => by
      obtain ⟨z, _, rfl⟩ := List.mem_map.mp hd
      rfl
    have gz : Gd big 60 1 (.tuple (zs.map .str)) := by
      have key : ∀ zs : List Str, (∀ z ∈ zs, z ∈ (["live", "met", "begin"] : List Str)) → Gl' big (17 * zs.length) 0 (zs.map PyData.str) := by
        intro zs
        induction zs with
        | nil => exact fun _ => ⟨(fun d h => nomatch h), Nat.le_refl _, (fun d h => nomatch h)⟩
        | cons z zs ih =>
          intro h
          have g1 : Gd big 16 0 (.str z) := by
            have := h z (List.mem_cons_self ..)
            simp only [List.mem_cons, List.mem_nil_iff, or_false] at this
            rcases this with rfl | rfl | rfl <;> exact Gd.str ⟨by decide, by decide⟩
          exact ((Gl'.one g1).app (ih fun x hx => h x (List.mem_cons_of_mem _ hx))).mono (Nat.le_refl _) (by simp only [List.length_cons]; omega) (Nat.le_refl _)
      exact (Gd.tup (key zs hz)).mono (Nat.le_refl _) (by omega) (Nat.le_refl _)
    refine ⟨_, rfl, x, C, dx, _, _, rfl, T7.one, RC.cl, RC.nP, rfl, _, rfl, ne_self hPd hPd gP nP (by decide) ⟨_, rfl, ifF rfl ?_⟩⟩
    refine ⟨_, rfl, x, C, dx, _, _, rfl, T7.one, RC.cl, RC.nM, rfl, _, rfl, ne_self (Dq.same s7 _ _ hM6) (Dq.same s7 _ _ hW6) gz nW (by decide) ⟨_, rfl, ifF rfl ?_⟩⟩
    exact nx _ _ _ _ l5 H7 (T7.M.mono (by omega))
end
end Ms
namespace Ms
open PySem PySem.Spec PyProof.Rows L2 RZ
theorem Prs.kept {H H' : Hp} {m l l' : Addr} {as : List Addr} {ys : List (Str × Int)} (k : Kept m l l' H H') (p : Prs H as ys) : Prs H' as ys := by
  obtain ⟨z1, e1⟩ := k.am
  obtain ⟨z2, e2⟩ := k.al
  refine Prs.same (fun b o hb e => ?_) p
  obtain ⟨y, i, h⟩ := p.live b hb
  exact k.keep b o e (ne_of h e1 (by intro z; cases z)) (ne_of h e2 (by intro z; cases z))
section
variable {P : Program} {w : World} {K : PySem.W.Frag} {mg : Str → Option Value} {base : Heap} {fN fM fO fB fSe fPc fMd fLs fR C CS CP CM f : Addr} {cdv : Value} {fdN fdB fdO fdS fdPc fdMd fdLs fdR : FuncData} {s : Shared} {H0 : Hp} {Eb : XK}
theorem law_head {tT : TS} (T0 : TxtB mg fN fM fO fB) (gSe : mg "_law_settings" = some (.ref fSe)) (gPc : mg "_law_places" = some (.ref fPc)) (gMd : mg "_law_modes" = some (.ref fMd)) (gLs : mg "_law_standings" = some (.ref fLs)) (gR : mg "Request" = some (.ref C)) (RC : ReqC K C) (MkC : Mk K C fR)
    (FN : Fun K "_law_next" "_law_next" sNext fN fdN) (bN : Binds K fdN ["m", "many"] [])
    (FS : Fun K "_law_settings" "_law_settings" sSettings fSe fdS) (bS : Binds K fdS ["m"] []) (GS : FnOk P w K mg base CX0 3 fSe fdS ["m"] spSettingsV)
    (FPc : Fun K "_law_places" "_law_places" sPlaces fPc fdPc) (bPc : Binds K fdPc ["m", "spots", "most"] []) (GPc : FnOk P w K mg base CX0 3 fPc fdPc ["m", "spots", "most"] (spPlacesV K))
    (FMd : Fun K "_law_modes" "_law_modes" sModes fMd fdMd) (bMd : Binds K fdMd ["m", "spots"] []) (GMd : FnOk P w K mg base CX0 2 fMd fdMd ["m", "spots"] (spModes K))
    (FLs : Fun K "_law_standings" "_law_standings" sStandings fLs fdLs) (bLs : Binds K fdLs ["spots"] []) (GLs : FnOk P w K mg base CX0 1 fLs fdLs ["spots"] (spLStand K))
    (GR : FnOk P w K mg base (L2.CX P w) 6 fR fdR ["self", "settings", "places", "modes"] (spReq K C CS CP CM)) (b4 : Binds K fdR ["self", "settings", "places", "modes"] [])
    (hr : Room 7 (callerA.deeper (envOfC "law" (defScope sLaw) s.heap.objs.size f cdv)))
    (dT : PSs (cxOf CX0 P w K mg base NL "law" (defScope sLaw) f cdv callerA [] s H0 Eb).nox (bTurn.drop 3) tT)
    (zT : ∀ (D : Ends) (H1 : Hp) (a m l : Addr) (n : Nat) (pS : Addr) (xs : List V) (ys : List (Str × Int)) (pP : Addr) (ps : List V) (ds : List PyData) (x dx : Addr) (vM : V) (pR : Addr) (rv : List V) (pW : Addr) (zs : List Str) (v2 v8 v9 v10 v11 v12 : Option V),
      T9 K H1 m l n pS xs ys pP ps ds x C dx vM pR rv → pR ≠ l → n < 300000 → Gd big 7500 3 (.tuple ds) → Dq K H1 m l (.ref pW) (.tuple (zs.map .str)) → Dq K H1 m l vM (.tuple (zs.map .str)) → (∀ z ∈ zs, z ∈ (["live", "met", "begin"] : List Str)) → zs.length ≤ 3 →
      (∀ (v8 v9 v10 v11 : Option V) (l' : Addr) (H2 : Hp), Mch H2 m l' (n + 50) → D.nx [some (.ref a), some (.ref m), v2, some (.ref pS), some (.ref pP), some (.ref pW), some (.ref x), some (.ref pR), v8, v9, v10, v11, v12] H2) →
      tT D [some (.ref a), some (.ref m), v2, some (.ref pS), some (.ref pP), some (.ref pW), some (.ref x), some (.ref pR), v8, v9, v10, v11, v12] H1) :
    ∃ t, PSs (cxOf CX0 P w K mg base NL "law" (defScope sLaw) f cdv callerA [] s H0 Eb).nox bTurn t ∧ ∀ (D : Ends) (H1 : Hp) (a m l : Addr) (n : Nat) (v2 v3 v4 v5 v6 v7 v8 v9 v10 v11 v12 : Option V),
      Mch H1 m l n → n < 200000 →
      (∀ (v3 v4 v5 v6 v7 v8 v9 v10 v11 : Option V) (l' : Addr) (H2 : Hp), Mch H2 m l' (n + 400) → D.nx [some (.ref a), some (.ref m), v2, v3, v4, v5, v6, v7, v8, v9, v10, v11, v12] H2) →
      t D [some (.ref a), some (.ref m), v2, v3, v4, v5, v6, v7, v8, v9, v10, v11, v12] H1 := by
  have hr1 : Room 1 (callerA.deeper (envOfC "law" (defScope sLaw) s.heap.objs.size f cdv)) := hr.mono (by decide)
  have hr2 : Room 2 (callerA.deeper (envOfC "law" (defScope sLaw) s.heap.objs.size f cdv)) := hr.mono (by decide)
  have hr3 : Room 3 (callerA.deeper (envOfC "law" (defScope sLaw) s.heap.objs.size f cdv)) := hr.mono (by decide)
  have GN : FnOk P w K mg base CX0 1 fN fdN ["m", "many"] spNext := ok_next FN T0.toTxt
  refine ⟨_, pss_cons (ps_set (i := 3) scL.nd rfl (Or.inl rfl) (pe_call GS hr3 (by rfl) gSe FS.kp bS .nil pass0 (pa_cons (pv 1) pa_nil)))
    (pss_cons (ps_par (i := 4) (j := 5) (by rfl) scL.nd rfl rfl (by decide) rfl rfl (pa_cons (pe_call GPc hr3 (by rfl) gPc FPc.kp bPc .nil pass0 (pa_cons (pv 1) (pa_cons (pv 3) (pa_cons (pe_ix (show IxR _ (rIxL K) from ix_list) (pe_lst (pa_cons pe_int (pa_cons pe_int (pa_cons pe_int pa_nil)))) (pe_call GN hr1 (by rfl) T0.next FN.kp bN .nil pass0 (pa_cons (pv 1) (pa_cons pe_int pa_nil))) (fun _ _ => rfl)) pa_nil))))
        (pa_cons (pe_call GMd hr2 (by rfl) gMd FMd.kp bMd .nil pass0 (pa_cons (pv 1) (pa_cons (pv 3) pa_nil))) pa_nil)) (by rfl))
    (pss_cons (ps_par (i := 6) (j := 7) (by rfl) scL.nd rfl rfl (by decide) rfl rfl (pa_cons (pe_make (E := fun _ _ _ => False) MkC GR hr (by rfl) gR b4 .nil (passes_call noTake fun _ _ _ _ h => h) (pa_cons (pv 3) (pa_cons (pv 4) (pa_cons (pv 5) pa_nil))))
        (pa_cons (pe_call GLs hr1 (by rfl) gLs FLs.kp bLs .nil pass0 (pa_cons (pv 3) pa_nil)) pa_nil)) (by rfl)) dT)), ?_⟩
  intro D H1 a m l n v2 v3 v4 v5 v6 v7 v8 v9 v10 v11 v12 M hn nx
  refine ⟨_, rfl, m, l, n, rfl, M, by omega, fun pS as ys l1 H2 gp pr so M1 f1 => ?_⟩
  have la := pr.length
  refine ⟨_, rfl, _, rfl, (by show 3 ≤ sizeLine; decide), fun p3 h3 => ?_⟩
  have s3 : Same H2 (upd H2 p3 (.lst [.int 4, .int 8, .int 16])) := Same.upd h3
  have n3 := M1.ne h3
  refine ⟨_, rfl, m, l1, n + 12, 3, rfl, M1.same s3, by omega, by decide, by decide, fun r l4 H4 r0 r3 M4 f4 => ?_⟩
  have k4 := (M1.same s3).step f4
  obtain ⟨k, hk, k1, k16⟩ : ∃ k : Nat, atI ([.int 4, .int 8, .int 16] : List V) r = some (.int (k : Int)) ∧ 1 ≤ k ∧ k ≤ 16 := by
    obtain ⟨j, rfl⟩ : ∃ j : Nat, r = (j : Int) := ⟨r.toNat, by omega⟩
    have hj : j < 3 := by omega
    match j, hj with
    | 0, _ => exact ⟨4, rfl, by decide, by decide⟩
    | 1, _ => exact ⟨8, rfl, by decide, by decide⟩
    | 2, _ => exact ⟨16, rfl, by decide, by decide⟩
  have gp4 : H4 pS = some (.tup (as.map V.ref)) := by
    obtain ⟨z1, e1⟩ := k4.am
    obtain ⟨z2, e2⟩ := k4.al
    have gp' := s3 _ _ gp
    exact k4.keep pS _ gp' (ne_of gp' e1 (by intro z; cases z)) (ne_of gp' e2 (by intro z; cases z))
  have pr4 : Prs H4 as ys := Prs.kept k4 (Prs.same (fun b o _ e => s3 b o e) pr)
  refine ⟨p3, _, r, _, rfl, rfl, SqL.of (f4.keep _ _ upd_same n3.1 n3.2), hk, ?_⟩
  refine ⟨m, l4, pS, n + 12 + 1, as, ys, k, rfl, M4, by omega, gp4, pr4, so.okP, so.len1, so.len3, k1, k16, fun pP ps ds l5 H5 gP dP gdP lP1 lP2 plP M5 f5 => ?_⟩
  have k5 := M4.step f5
  have gp5 : H5 pS = some (.tup (as.map V.ref)) := by
    obtain ⟨z1, e1⟩ := k5.am
    obtain ⟨z2, e2⟩ := k5.al
    exact k5.keep pS _ gp4 (ne_of gp4 e1 (by intro z; cases z)) (ne_of gp4 e2 (by intro z; cases z))
  have pr5 : Prs H5 as ys := Prs.kept k5 pr4
  refine ⟨_, rfl, _, rfl, m, l5, pS, n + 12 + 1 + 220, as, rfl, M5, by omega, gp5, by have := so.len3; omega, fun pW zs l6 H6 gW lz hz M6 f6 => ⟨_, _, rfl, ?_⟩⟩
  have k6 := M5.step f6
  have gp6 : SqT K H6 pS (as.map V.ref) := k6.tup (.inl (.inl gp5))
  have pr6 : Prs H6 as ys := Prs.kept k6 pr5
  have wdq : ∀ (zs : List Str) (G : Hp) (l : Addr), DqAll K G m l (zs.map V.str) (zs.map PyData.str) := fun zs G l => by
    induction zs with
    | nil => exact .nil
    | cons z zs ih => exact .cons (.str z) ih
  have lz3 : zs.length ≤ 3 := by have := so.len3; omega
  have hP6 : SqT K H6 pP ps := k6.tup (.inl (.inl gP))
  have dP6 : DqAll K H6 m l6 ps ds := DqAll.step k6 _ _ dP
  have hS6 : Dq K H6 m l6 (.ref pS) (.tuple (prD ys)) := .tup gp6 pr6.dq
  have hW6 : Dq K H6 m l6 (.ref pW) (.tuple (zs.map .str)) := .tup (.inl (.inl gW)) (wdq zs _ _)
  refine ⟨_, rfl, _, rfl, _, rfl, fun x dx hx0 hdx0 ne0 => ?_⟩
  refine req_okQ (b1 := 2) (B1 := 10 ^ 31) (b2 := 3) (B2 := big) so hS6 ((spots_good9 so).mono (Nat.le_refl _) (by decide) (Nat.le_refl _)) (.tup hP6 dP6) (gdP.mono (Nat.le_refl _) (by decide) (Nat.le_refl _)) hW6 (places_no so.nodup lP1 lP2 plP) (modes_no (by omega) hz) hx0 hdx0 ne0 fun vM H7 s7 gx hM => ⟨rfl, ?_⟩
  refine ⟨_, rfl, pS, as.map V.ref, ys, rfl, Same.seqT s7 gp6, prD_trs (m := m) (l := l6) ys _ (DqAll.same s7 _ _ pr6.dq), so.len3, so.most, fun pR rv H8 hR s8 gR rw8 => ⟨_, _, rfl, ?_⟩⟩
  have s78 := s7.trans s8
  have M8 := M6.same s78
  have nR : pR ≠ l6 := ((M6.same s7).ne hR).2
  have T8 : T9 K H8 m l6 (n + 12 + 1 + 220 + 3) pS (as.map V.ref) ys pP ps ds x C dx vM pR rv :=
    ⟨M8, so, Same.seqT s78 gp6, DqAll.same s78 _ _ pr6.dq, Same.seqT s78 hP6, DqAll.same s78 _ _ dP6, plP, lP1, lP2, fun d hd => (by
      obtain ⟨c, ec, g⟩ := Gd.untup gdP
      obtain ⟨i, hi⟩ := List.mem_iff_getElem?.mp hd
      rcases plP d hd with rfl | ⟨z, r, rfl, hz, h0, h1⟩ | ⟨q, hq, ns, rfl, hl, hx⟩
      · exact end_good
      · exact do_good hz.ok h0 (by omega)
      · have hm := so.most q hq
        exact ask_good (so.nm q hq).ok (fun x hx' => ⟨(hx x hx').1, by have := (hx x hx').2; omega⟩) (by omega)), s8 _ _ gx, gR, rw8⟩
  exact zT D H8 a m l6 _ pS _ ys pP ps ds x dx vM pR rv pW zs v2 _ _ _ _ _ T8 nR (by omega) gdP (Dq.same s78 _ _ hW6) (Dq.same s8 _ _ hM) hz lz3 fun v8 v9 v10 v11 l' H2' M' => nx _ _ _ _ _ v8 v9 v10 v11 l' H2' (M'.mono (by omega))
end
section
variable {P : Program} {w : World} {K : PySem.W.Frag} {mg : Str → Option Value} {fN fM fO fB fBg fSe fPc fMd fLs fBe fGo fLp C CS CP CM CB fR fPp f pI pN pS pA pG fNu fAs fPl fMo fNP fNM fNd fSt fNs fPr fOr aE aM fES fEP fEM fEB : Addr}
theorem ok_law {fd fdBg fdN fdM fdS fdO fdB fdPc fdMd fdLs fdBe fdGo fdLp fdI fdPn fdPs fdNd fdPa fdPg fdNu fdAs fdPl fdMo fdNP fdNM fdSt fdNs fdPr fdOr fdR fdPp fdES fdEP fdEM fdEB : FuncData} {q1 q2 q3 q4 qual qp : Str}
    (T0 : TxtB mg fN fM fO fB) (hmin : mg "min" = none) (hrep : mg "repr" = none) (TR : TxtR mg pI pN pS pA pG fNu fAs fPl fMo fNP fNM fNd aE aM) (W : WrT K aE aM)
    (gBg : mg "_law_begun" = some (.ref fBg)) (gSe : mg "_law_settings" = some (.ref fSe)) (gPc : mg "_law_places" = some (.ref fPc)) (gMd : mg "_law_modes" = some (.ref fMd)) (gLs : mg "_law_standings" = some (.ref fLs)) (gBe : mg "_law_begin" = some (.ref fBe)) (gGo : mg "_law_gone" = some (.ref fGo)) (gLp : mg "_law_plain" = some (.ref fLp))
    (gR : mg "Request" = some (.ref C)) (gS : mg "BadSettings" = some (.ref CS)) (gP : mg "BadPlaces" = some (.ref CP)) (gM : mg "BadModes" = some (.ref CM)) (gB : mg "BadStanding" = some (.ref CB)) (gSt : mg "is_standing" = some (.ref fSt)) (gNs : mg "need_standing" = some (.ref fNs)) (gPr : mg "plain_row" = some (.ref fPr)) (gOr : mg "order_of" = some (.ref fOr))
    (RC : ReqC K C) (MkC : Mk K C fR) (mt : Meth K C "plain" fPp) (TS : ErrC K CS fES) (TP : ErrC K CP fEP) (TM : ErrC K CM fEM) (TB : ErrF K CB fEB "value") (xB : PySem.W.exmOne K (.ref CB) (.ref CB) = some true) (TX : XfC K CB)
    (F : Fun K "law" "law" sLaw f fd) (bL : ∀ (s : Shared) (u : Value), BindsTo s fd ⟨[u], []⟩ [("script", u)])
    (FBg : Fun K "_law_begun" "_law_begun" sBegun fBg fdBg) (bBg : Binds K fdBg ["script"] []) (FN : Fun K "_law_next" "_law_next" sNext fN fdN) (bN : Binds K fdN ["m", "many"] []) (FM : Fun K "_law_names" "_law_names" sNames fM fdM) (bM : Binds K fdM ["m", "many"] [])
    (FS : Fun K "_law_settings" "_law_settings" sSettings fSe fdS) (bS : Binds K fdS ["m"] []) (FO : Fun K "_law_odd" "_law_odd" sOdd fO fdO) (bO : Binds K fdO ["m"] []) (FB : Fun K "_law_bent" "_law_bent" sBent fB fdB) (bB : Binds K fdB ["m", "thing"] [])
    (FPc : Fun K "_law_places" "_law_places" sPlaces fPc fdPc) (bPc : Binds K fdPc ["m", "spots", "most"] []) (FMd : Fun K "_law_modes" "_law_modes" sModes fMd fdMd) (bMd : Binds K fdMd ["m", "spots"] []) (FLs : Fun K "_law_standings" "_law_standings" sStandings fLs fdLs) (bLs : Binds K fdLs ["spots"] [])
    (FBe : Fun K "_law_begin" "_law_begin" sBegin fBe fdBe) (bBe : Binds K fdBe ["modes", "standing"] []) (FGo : Fun K "_law_gone" "_law_gone" sGone fGo fdGo) (bGo : Binds K fdGo ["spots", "places", "modes", "spot"] []) (FLp : Fun K "_law_plain" "_law_plain" sPlain fLp fdLp) (bLp : Binds K fdLp ["spots", "places", "standing"] [])
    (FR : FunD K "__init__" qual (defArgs sReqIni) (defBody sReqIni) (defScope sReqIni) [.non] [] fR fdR) (b4 : Binds K fdR ["self", "settings", "places", "modes"] []) (FPp : Fun K "plain" qp sReqPlain fPp fdPp) (bPp : Binds K fdPp ["self", "standing"] [])
    (FES : Fun K "__init__" q1 sIni fES fdES) (bES : Binds K fdES ["self", "place"] []) (FEP : Fun K "__init__" q2 sIniP fEP fdEP) (bEP : Binds K fdEP ["self", "place"] []) (FEM : Fun K "__init__" q3 sIniM fEM fdEM) (bEM : Binds K fdEM ["self", "place"] []) (FEB : Fun K "__init__" q4 sIniS fEB fdEB) (bEB : Binds K fdEB ["self", "value"] [])
    (FI : Fun K "is_int" "is_int" sPInt pI fdI) (bI : Binds K fdI ["thing"] []) (FPn : Fun K "is_name" "is_name" sPName pN fdPn) (bPn : Binds K fdPn ["thing"] []) (FPs : Fun K "is_setting" "is_setting" sPSet pS fdPs) (bPs : Binds K fdPs ["thing"] [])
    (FPa : Fun K "names_of" "names_of" sPNames pA fdPa) (bPa : Binds K fdPa ["settings"] []) (FPg : Fun K "grid_of" "grid_of" sPGrid pG fdPg) (bPg : Binds K fdPg ["settings"] []) (FNd : Fun K "need_settings" "need_settings" sNeed fNd fdNd) (bNd : Binds K fdNd ["thing"] [])
    (FNu : Fun K "is_number" "is_number" sPNum fNu fdNu) (bNu : Binds K fdNu ["many", "thing"] []) (FAs : Fun K "is_ask" "is_ask" sPAsk fAs fdAs) (bAs : Binds K fdAs ["settings", "many", "setting", "nexts"] [])
    (FPl : Fun K "is_place" "is_place" sPPlace fPl fdPl) (bPl : Binds K fdPl ["settings", "many", "thing"] []) (FMo : Fun K "is_mode" "is_mode" sPMode fMo fdMo) (bMo : Binds K fdMo ["thing"] [])
    (FNP : Fun K "need_places" "need_places" sNPlaces fNP fdNP) (bNP : Binds K fdNP ["settings", "places"] []) (FNM : Fun K "need_modes" "need_modes" sNModes fNM fdNM) (bNM : Binds K fdNM ["settings", "modes"] [])
    (FSt : Fun K "is_standing" "is_standing" sPStand fSt fdSt) (bSt : Binds K fdSt ["settings", "thing"] []) (FNs : Fun K "need_standing" "need_standing" sNStand fNs fdNs) (bNs : Binds K fdNs ["settings", "thing"] []) (FPr : Fun K "plain_row" "plain_row" sPPRow fPr fdPr) (bPr : Binds K fdPr ["places", "order", "standing"] []) (FOr : Fun K "order_of" "order_of" sPOrder fOr fdOr) (bOr : Binds K fdOr ["settings"] []) : LawRun P w K mg f := by
  intro base H s a ns kin glob hS hlen st0
  have GBg : FnOk P w K mg base CX0 1 fBg fdBg ["script"] (spBegun K) := ok_begun FBg T0.toTxt
  have GS : FnOk P w K mg base CX0 3 fSe fdS ["m"] spSettingsV := ok_settingsV FS T0.toTxtS FN bN FM bM
  have GO : FnOk P w K mg base CX0 2 fO fdO ["m"] (spOdd K) := ok_odd FO T0.toTxtS FN bN
  have GB : FnOk P w K mg base CX0 7 fB fdB ["m", "thing"] (spBent K 5) := ok_bent FB bB T0 FN bN FO bO 5
  have GPc : FnOk P w K mg base CX0 3 fPc fdPc ["m", "spots", "most"] (spPlacesV K) := ok_placesV FPc ⟨T0.toTxtS, hmin⟩ FN bN FM bM
  have GMd : FnOk P w K mg base CX0 2 fMd fdMd ["m", "spots"] (spModes K) := ok_modes FMd T0.toTxtS FN bN
  have GLs : FnOk P w K mg base CX0 1 fLs fdLs ["spots"] (spLStand K) := ok_lstand FLs T0.toTxtN
  have GLp : FnOk P w K mg base CX0 2 fLp fdLp ["spots", "places", "standing"] (spLPlain K) := ok_lplain FLp T0.toTxtN gBe gGo FBe bBe FGo bGo
  have GR : FnOk P w K mg base (L2.CX P w) 6 fR fdR ["self", "settings", "places", "modes"] (spReq K C CS CP CM) := ok_reqini FR TR W RC gS TS gP TP gM TM FES bES FEP bEP FEM bEM FI bI FPn bPn FPs bPs FPa bPa FPg bPg FNd bNd FNu bNu FAs bAs FPl bPl FMo bMo FNP bNP FNM bNM
  have GPp : FnOk P w K mg base (L2.CX P w) 4 fPp fdPp ["self", "standing"] (spPPlain K C CB) := ok_plain FPp TR.toTxtP T0.zip gSt gNs gPr gOr TR.gE W.e gB TB RC FI bI FSt bSt FEB bEB FNs bNs FPr bPr FOr bOr
  refine run_known (k := 7) (N := NL) (ps := ["script"]) (us := [.ref a]) (vs := [.ref a]) F scL rfl ⟨rfl, by decide, by decide⟩ st0 (bL s _) (.cons rfl .nil) rfl fun cdv hr => ?_
  obtain ⟨t1, d1, z1⟩ := law_each (H0 := H) (s := s) (f := f) (cdv := cdv) (Eb := fun _ _ _ => False) hrep gB gLp xB TX TB.no RC FLp bLp GLp mt bPp GPp hr
  obtain ⟨t2, d2, z2⟩ := law_loop T0 RC FN bN FB bB GB FO bO GO hr d1 z1
  obtain ⟨t3, d3, z3⟩ := law_head T0 gSe gPc gMd gLs gR RC MkC FN bN FS bS GS FPc bPc GPc FMd bMd GMd FLs bLs GLs GR b4 hr d2 z2
  clear z1 z2 d1 d2
  have hr1 : Room 1 (callerA.deeper (envOfC "law" (defScope sLaw) s.heap.objs.size f cdv)) := hr.mono (by decide)
  refine ⟨_, pss_cons (ps_set (i := 1) scL.nd rfl (Or.inl rfl) (pe_call GBg hr1 (by rfl) gBg FBg.kp bBg .nil pass0 (pa_cons (pv 0) pa_nil)))
    (pss_cons (ps_for PassesOwn.never rfl (pi_range1 (by rfl) T0.range (pa_cons (pe_op op_add pe_int (pe_callB (call_min2 rfl) (by rfl) hmin (by decide +kernel) (pa_cons (pe_callB call_len_seq (by rfl) T0.len PySem.boot_len (pa_cons (pv 0) pa_nil)) (pa_cons pe_int pa_nil)))) pa_nil)) (pg_name (i := 2) scL.nd rfl (Or.inl rfl)) d3)
    (pss_one (ps_ret pe_bl))), ?_⟩
  refine ⟨_, rfl, a, ns, rfl, hS, hlen, fun m l H1 hm hl s1 M1 => ?_⟩
  have lenM : (ns.map V.int).length = ns.length := List.length_map ..
  refine ⟨_, rfl, a, _, rfl, .inl (s1.seq hS), _, _, rfl, _, _, rfl, rfl, _, rfl, (by rw [lenM]; split <;> omega), (by rw [lenM]; split <;> omega), ?_⟩
  generalize hj : (3 + if (9 : Int) < ((ns.map V.int).length : Nat) then (9 : Int) else ((ns.map V.int).length : Nat)) = j
  have hj16 : j ≤ 12 := by rw [← hj]; split <;> omega
  refine for_range (lo := 0) (n := j.toNat) (fun i σ H2 => ∃ (v2 v3 v4 v5 v6 v7 v8 v9 v10 v11 v12 : Option V) (l n : Nat), σ = [some (.ref a), some (.ref m), v2, v3, v4, v5, v6, v7, v8, v9, v10, v11, v12] ∧ Mch H2 m l n ∧ n ≤ 400 * i)
    ⟨_, _, _, _, _, _, _, _, _, _, _, l, 0, rfl, M1, Nat.le_refl _⟩ ?_ ?_
  · rintro i σ H2 hi ⟨v2, v3, v4, v5, v6, v7, v8, v9, v10, v11, v12, l2, n, rfl, M2, hn⟩
    exact z3 _ H2 a m l2 n _ _ _ _ _ _ _ _ _ _ _ M2 (by omega) fun v3 v4 v5 v6 v7 v8 v9 v10 v11 l' H3 M3 => ⟨_, v3, v4, v5, v6, v7, v8, v9, v10, v11, v12, l', n + 400, rfl, M3, by omega⟩
  · rintro σ H2 _
    rfl
end
end Ms
namespace Ms
open PySem PySem.Spec PyProof.Rows L2 RZ
/-! ### the end: what the top has written -/
set_option maxHeartbeats 16000000 in
theorem all_mk {P : Program} {w : World} {K : PySem.W.Frag} {h : Heap} {mg : Str → Option Value} {fa CS fES CP fEP CM fEM CB fEB C fR Td aE aM fPp pI pN pS pD pA pG fNu fAs fPl fMo fNP fNM fSt fNs fPr fOr fBg fN fM fSe fO fB fPc fMd fLs fBe fGo fLp fL : Addr} (X : K.In h) (G : h.Ns mainGlobals mg) (hfa : mg "law" = some (.ref fa))
    {nmeS qeS : Str} {NeS : Addr} {bseS bmeS : List Value} {sneS : List Str} {subeS : List Value} {abeS : Bool} {coleS : Option Bool} {ddeS : Option Addr} {m0eS m1eS m2eS m3eS m5eS : Option Value}
    {odieS anieS : Option Addr} {slieS : Array (Option Value)} {ocieS kVieS dcieS pmieS cdieS ctieS : Value}
    {nmeP qeP : Str} {NeP : Addr} {bseP bmeP : List Value} {sneP : List Str} {subeP : List Value} {abeP : Bool} {coleP : Option Bool} {ddeP : Option Addr} {m0eP m1eP m2eP m3eP m5eP : Option Value}
    {odieP anieP : Option Addr} {slieP : Array (Option Value)} {ocieP kVieP dcieP pmieP cdieP ctieP : Value}
    {nmeM qeM : Str} {NeM : Addr} {bseM bmeM : List Value} {sneM : List Str} {subeM : List Value} {abeM : Bool} {coleM : Option Bool} {ddeM : Option Addr} {m0eM m1eM m2eM m3eM m5eM : Option Value}
    {odieM anieM : Option Addr} {slieM : Array (Option Value)} {ocieM kVieM dcieM pmieM cdieM ctieM : Value}
    {nmeB qeB : Str} {NeB : Addr} {bseB bmeB : List Value} {sneB : List Str} {subeB : List Value} {abeB : Bool} {coleB : Option Bool} {ddeB : Option Addr} {m0eB m1eB m2eB m3eB m5eB : Option Value}
    {odieB anieB : Option Addr} {slieB : Array (Option Value)} {ocieB kVieB dcieB pmieB cdieB ctieB : Value}
    {odR anR : Option Addr} {slR : Array (Option Value)} {ocR kVR dcR pmR cdR ctR : Value} {ocT : Value} {odT : Option Addr} {nT : Nat} {slT : Array (Option Value)}
    {dE dM : Option Addr} {kE kM : Nat} {sE sM : Array (Option Value)} {tE tM1 tM2 tM3 : Tok}
    {odPp anPp : Option Addr} {slPp : Array (Option Value)} {ocPp kVPp dcPp pmPp cdPp ctPp : Value}
    {odpI anpI : Option Addr} {slpI : Array (Option Value)} {ocpI kVpI dcpI pmpI cdpI ctpI : Value}
    {odpN anpN : Option Addr} {slpN : Array (Option Value)} {ocpN kVpN dcpN pmpN cdpN ctpN : Value}
    {odpS anpS : Option Addr} {slpS : Array (Option Value)} {ocpS kVpS dcpS pmpS cdpS ctpS : Value}
    {odpD anpD : Option Addr} {slpD : Array (Option Value)} {ocpD kVpD dcpD pmpD cdpD ctpD : Value}
    {odpA anpA : Option Addr} {slpA : Array (Option Value)} {ocpA kVpA dcpA pmpA cdpA ctpA : Value}
    {odpG anpG : Option Addr} {slpG : Array (Option Value)} {ocpG kVpG dcpG pmpG cdpG ctpG : Value}
    {odNu anNu : Option Addr} {slNu : Array (Option Value)} {ocNu kVNu dcNu pmNu cdNu ctNu : Value}
    {odAs anAs : Option Addr} {slAs : Array (Option Value)} {ocAs kVAs dcAs pmAs cdAs ctAs : Value}
    {odPl anPl : Option Addr} {slPl : Array (Option Value)} {ocPl kVPl dcPl pmPl cdPl ctPl : Value}
    {odMo anMo : Option Addr} {slMo : Array (Option Value)} {ocMo kVMo dcMo pmMo cdMo ctMo : Value}
    {odNP anNP : Option Addr} {slNP : Array (Option Value)} {ocNP kVNP dcNP pmNP cdNP ctNP : Value}
    {odNM anNM : Option Addr} {slNM : Array (Option Value)} {ocNM kVNM dcNM pmNM cdNM ctNM : Value}
    {odSt anSt : Option Addr} {slSt : Array (Option Value)} {ocSt kVSt dcSt pmSt cdSt ctSt : Value}
    {odNs anNs : Option Addr} {slNs : Array (Option Value)} {ocNs kVNs dcNs pmNs cdNs ctNs : Value}
    {odPr anPr : Option Addr} {slPr : Array (Option Value)} {ocPr kVPr dcPr pmPr cdPr ctPr : Value}
    {odOr anOr : Option Addr} {slOr : Array (Option Value)} {ocOr kVOr dcOr pmOr cdOr ctOr : Value}
    {odBg anBg : Option Addr} {slBg : Array (Option Value)} {ocBg kVBg dcBg pmBg cdBg ctBg : Value}
    {odN anN : Option Addr} {slN : Array (Option Value)} {ocN kVN dcN pmN cdN ctN : Value}
    {odNa anNa : Option Addr} {slNa : Array (Option Value)} {ocNa kVNa dcNa pmNa cdNa ctNa : Value}
    {odSe anSe : Option Addr} {slSe : Array (Option Value)} {ocSe kVSe dcSe pmSe cdSe ctSe : Value}
    {odO anO : Option Addr} {slO : Array (Option Value)} {ocO kVO dcO pmO cdO ctO : Value}
    {odB anB : Option Addr} {slB : Array (Option Value)} {ocB kVB dcB pmB cdB ctB : Value}
    {odPc anPc : Option Addr} {slPc : Array (Option Value)} {ocPc kVPc dcPc pmPc cdPc ctPc : Value}
    {odMd anMd : Option Addr} {slMd : Array (Option Value)} {ocMd kVMd dcMd pmMd cdMd ctMd : Value}
    {odLs anLs : Option Addr} {slLs : Array (Option Value)} {ocLs kVLs dcLs pmLs cdLs ctLs : Value}
    {odBe anBe : Option Addr} {slBe : Array (Option Value)} {ocBe kVBe dcBe pmBe cdBe ctBe : Value}
    {odGo anGo : Option Addr} {slGo : Array (Option Value)} {ocGo kVGo dcGo pmGo cdGo ctGo : Value}
    {odLp anLp : Option Addr} {slLp : Array (Option Value)} {ocLp kVLp dcLp pmLp cdLp ctLp : Value}
    {odL anL : Option Addr} {slL : Array (Option Value)} {ocL kVL dcL pmL cdL ctL : Value}
    {tMOST_SETTINGS : Tok}
    {tMOST_VALUE : Tok}
    {tMOST_STANDINGS : Tok}
    {tLONGEST_NAME : Tok}
    {tMOST_PLACES : Tok}
    (AeS : PySem.W.nsIn K mainGlobals "BadSettings" = some (some (.ref CS)))
    (XeS : K.lookup CS = some (excClassObj nmeS qeS CS NeS bseS bmeS true sneS subeS abeS coleS ddeS m0eS m1eS m2eS m3eS m5eS "ValueError.__new__"))
    (ReS : PySem.HandSPX.refsVE bmeS = true)
    (SeS : PySem.W.findIn K (.ref CS) "__setattr__" = some (some (.builtin "object.__setattr__")))
    (EeS : PySem.W.subIn K (.ref CS) (.type "BaseException") = some true)
    (TeS : PySem.W.typeIn K (.ref CS) = some (.type "type"))
    (KeS : PySem.W.keepIn K (.ref CS) = true)
    (IeS : PySem.W.findIn K (.ref CS) "__init__" = some (some (.ref fES)))
    (YeS : PySem.W.typeIn K (.ref fES) = some (.type "function"))
    (NeS : PySem.W.findIn K (.ref CS) "place" = some none)
    (GeS : PySem.W.findIn K (.ref CS) "__getattribute__" = some (some (.builtin "BaseException.__getattribute__")))
    (HeS : PySem.W.findIn K (.ref CS) "__getattr__" = some none)
    (DeS : PySem.W.hasDictIn K CS = true)
    (MeS : PySem.W.exmOne K (.ref CS) (.ref CS) = some true)
    (lieS : K.lookup fES = some ⟨ocieS, odieS, .func (PySem.W.fnOf "__init__" "BadSettings.__init__" (defArgs sIni) (defBody sIni) (defScope sIni) .none kVieS dcieS pmieS anieS cdieS ctieS), slieS⟩)
    (dieS : PySem.W.codeIn K cdieS "BadSettings.__init__" = true)
    (eieS : PySem.W.keepIn K (.ref fES) = true)
    (AeP : PySem.W.nsIn K mainGlobals "BadPlaces" = some (some (.ref CP)))
    (XeP : K.lookup CP = some (excClassObj nmeP qeP CP NeP bseP bmeP true sneP subeP abeP coleP ddeP m0eP m1eP m2eP m3eP m5eP "ValueError.__new__"))
    (ReP : PySem.HandSPX.refsVE bmeP = true)
    (SeP : PySem.W.findIn K (.ref CP) "__setattr__" = some (some (.builtin "object.__setattr__")))
    (EeP : PySem.W.subIn K (.ref CP) (.type "BaseException") = some true)
    (TeP : PySem.W.typeIn K (.ref CP) = some (.type "type"))
    (KeP : PySem.W.keepIn K (.ref CP) = true)
    (IeP : PySem.W.findIn K (.ref CP) "__init__" = some (some (.ref fEP)))
    (YeP : PySem.W.typeIn K (.ref fEP) = some (.type "function"))
    (NeP : PySem.W.findIn K (.ref CP) "place" = some none)
    (GeP : PySem.W.findIn K (.ref CP) "__getattribute__" = some (some (.builtin "BaseException.__getattribute__")))
    (HeP : PySem.W.findIn K (.ref CP) "__getattr__" = some none)
    (DeP : PySem.W.hasDictIn K CP = true)
    (MeP : PySem.W.exmOne K (.ref CP) (.ref CP) = some true)
    (lieP : K.lookup fEP = some ⟨ocieP, odieP, .func (PySem.W.fnOf "__init__" "BadPlaces.__init__" (defArgs sIniP) (defBody sIniP) (defScope sIniP) .none kVieP dcieP pmieP anieP cdieP ctieP), slieP⟩)
    (dieP : PySem.W.codeIn K cdieP "BadPlaces.__init__" = true)
    (eieP : PySem.W.keepIn K (.ref fEP) = true)
    (AeM : PySem.W.nsIn K mainGlobals "BadModes" = some (some (.ref CM)))
    (XeM : K.lookup CM = some (excClassObj nmeM qeM CM NeM bseM bmeM true sneM subeM abeM coleM ddeM m0eM m1eM m2eM m3eM m5eM "ValueError.__new__"))
    (ReM : PySem.HandSPX.refsVE bmeM = true)
    (SeM : PySem.W.findIn K (.ref CM) "__setattr__" = some (some (.builtin "object.__setattr__")))
    (EeM : PySem.W.subIn K (.ref CM) (.type "BaseException") = some true)
    (TeM : PySem.W.typeIn K (.ref CM) = some (.type "type"))
    (KeM : PySem.W.keepIn K (.ref CM) = true)
    (IeM : PySem.W.findIn K (.ref CM) "__init__" = some (some (.ref fEM)))
    (YeM : PySem.W.typeIn K (.ref fEM) = some (.type "function"))
    (NeM : PySem.W.findIn K (.ref CM) "place" = some none)
    (GeM : PySem.W.findIn K (.ref CM) "__getattribute__" = some (some (.builtin "BaseException.__getattribute__")))
    (HeM : PySem.W.findIn K (.ref CM) "__getattr__" = some none)
    (DeM : PySem.W.hasDictIn K CM = true)
    (MeM : PySem.W.exmOne K (.ref CM) (.ref CM) = some true)
    (lieM : K.lookup fEM = some ⟨ocieM, odieM, .func (PySem.W.fnOf "__init__" "BadModes.__init__" (defArgs sIniM) (defBody sIniM) (defScope sIniM) .none kVieM dcieM pmieM anieM cdieM ctieM), slieM⟩)
    (dieM : PySem.W.codeIn K cdieM "BadModes.__init__" = true)
    (eieM : PySem.W.keepIn K (.ref fEM) = true)
    (AeB : PySem.W.nsIn K mainGlobals "BadStanding" = some (some (.ref CB)))
    (XeB : K.lookup CB = some (excClassObj nmeB qeB CB NeB bseB bmeB true sneB subeB abeB coleB ddeB m0eB m1eB m2eB m3eB m5eB "ValueError.__new__"))
    (ReB : PySem.HandSPX.refsVE bmeB = true)
    (SeB : PySem.W.findIn K (.ref CB) "__setattr__" = some (some (.builtin "object.__setattr__")))
    (EeB : PySem.W.subIn K (.ref CB) (.type "BaseException") = some true)
    (TeB : PySem.W.typeIn K (.ref CB) = some (.type "type"))
    (KeB : PySem.W.keepIn K (.ref CB) = true)
    (IeB : PySem.W.findIn K (.ref CB) "__init__" = some (some (.ref fEB)))
    (YeB : PySem.W.typeIn K (.ref fEB) = some (.type "function"))
    (NeB : PySem.W.findIn K (.ref CB) "value" = some none)
    (GeB : PySem.W.findIn K (.ref CB) "__getattribute__" = some (some (.builtin "BaseException.__getattribute__")))
    (HeB : PySem.W.findIn K (.ref CB) "__getattr__" = some none)
    (DeB : PySem.W.hasDictIn K CB = true)
    (MeB : PySem.W.exmOne K (.ref CB) (.ref CB) = some true)
    (lieB : K.lookup fEB = some ⟨ocieB, odieB, .func (PySem.W.fnOf "__init__" "BadStanding.__init__" (defArgs sIniS) (defBody sIniS) (defScope sIniS) .none kVieB dcieB pmieB anieB cdieB ctieB), slieB⟩)
    (dieB : PySem.W.codeIn K cdieB "BadStanding.__init__" = true)
    (eieB : PySem.W.keepIn K (.ref fEB) = true)
    (AR : PySem.W.nsIn K mainGlobals "Request" = some (some (.ref C)))
    (IR : PySem.W.findIn K (.ref C) "__init__" = some (some (.ref fR)))
    (mkR : PySem.W.makesIn K C = true)
    (fnR : PySem.W.isFn K (.ref fR) = true)
    (kpR : PySem.W.keepIn K (.ref C) = true)
    (pgR : PySem.W.plainGet K C Str.empty = true)
    (hdR : PySem.W.hasDictIn K C = true)
    (poR : PySem.W.plainOver K C = true)
    (saR : PySem.W.findIn K (.ref C) "__setattr__" = some (some (.builtin "object.__setattr__")))
    (n0R : PySem.W.findIn K (.ref C) "settings" = some none)
    (n1R : PySem.W.findIn K (.ref C) "places" = some none)
    (n2R : PySem.W.findIn K (.ref C) "modes" = some none)
    (lR : K.lookup fR = some ⟨ocR, odR, .func (PySem.W.fnOf "__init__" "Request.__init__" (defArgs sReqIni) (defBody sReqIni) (defScope sReqIni) (.ref Td) kVR dcR pmR anR cdR ctR), slR⟩)
    (dR : PySem.W.codeIn K cdR "Request.__init__" = true)
    (eR : PySem.W.keepIn K (.ref fR) = true)
    (lT : K.lookup Td = some ⟨ocT, odT, .seq #[.none] nT, slT⟩)
    (AE : PySem.W.nsIn K mainGlobals "END" = some (some (.ref aE)))
    (AM : PySem.W.nsIn K mainGlobals "MODES" = some (some (.ref aM)))
    (lE : K.lookup aE = some ⟨.type "tuple", dE, .seq #[.str "end" tE] kE, sE⟩)
    (lM : K.lookup aM = some ⟨.type "tuple", dM, .seq #[.str "live" tM1, .str "met" tM2, .str "begin" tM3] kM, sM⟩)
    (IPp : PySem.W.findIn K (.ref C) "plain" = some (some (.ref fPp)))
    (lPp : K.lookup fPp = some ⟨ocPp, odPp, .func (PySem.W.fnOf "plain" "Request.plain" (defArgs sReqPlain) (defBody sReqPlain) (defScope sReqPlain) .none kVPp dcPp pmPp anPp cdPp ctPp), slPp⟩)
    (dPp : PySem.W.codeIn K cdPp "Request.plain" = true)
    (ePp : PySem.W.keepIn K (.ref fPp) = true)
    (isfPp : PySem.W.isFn K (.ref fPp) = true)
    (apI : PySem.W.nsIn K mainGlobals "is_int" = some (some (.ref pI)))
    (lpI : K.lookup pI = some ⟨ocpI, odpI, .func (PySem.W.fnOf "is_int" "is_int" (defArgs sPInt) (defBody sPInt) (defScope sPInt) .none kVpI dcpI pmpI anpI cdpI ctpI), slpI⟩)
    (dpI : PySem.W.codeIn K cdpI "is_int" = true)
    (epI : PySem.W.keepIn K (.ref pI) = true)
    (apN : PySem.W.nsIn K mainGlobals "is_name" = some (some (.ref pN)))
    (lpN : K.lookup pN = some ⟨ocpN, odpN, .func (PySem.W.fnOf "is_name" "is_name" (defArgs sPName) (defBody sPName) (defScope sPName) .none kVpN dcpN pmpN anpN cdpN ctpN), slpN⟩)
    (dpN : PySem.W.codeIn K cdpN "is_name" = true)
    (epN : PySem.W.keepIn K (.ref pN) = true)
    (apS : PySem.W.nsIn K mainGlobals "is_setting" = some (some (.ref pS)))
    (lpS : K.lookup pS = some ⟨ocpS, odpS, .func (PySem.W.fnOf "is_setting" "is_setting" (defArgs sPSet) (defBody sPSet) (defScope sPSet) .none kVpS dcpS pmpS anpS cdpS ctpS), slpS⟩)
    (dpS : PySem.W.codeIn K cdpS "is_setting" = true)
    (epS : PySem.W.keepIn K (.ref pS) = true)
    (apD : PySem.W.nsIn K mainGlobals "need_settings" = some (some (.ref pD)))
    (lpD : K.lookup pD = some ⟨ocpD, odpD, .func (PySem.W.fnOf "need_settings" "need_settings" (defArgs sNeed) (defBody sNeed) (defScope sNeed) .none kVpD dcpD pmpD anpD cdpD ctpD), slpD⟩)
    (dpD : PySem.W.codeIn K cdpD "need_settings" = true)
    (epD : PySem.W.keepIn K (.ref pD) = true)
    (apA : PySem.W.nsIn K mainGlobals "names_of" = some (some (.ref pA)))
    (lpA : K.lookup pA = some ⟨ocpA, odpA, .func (PySem.W.fnOf "names_of" "names_of" (defArgs sPNames) (defBody sPNames) (defScope sPNames) .none kVpA dcpA pmpA anpA cdpA ctpA), slpA⟩)
    (dpA : PySem.W.codeIn K cdpA "names_of" = true)
    (epA : PySem.W.keepIn K (.ref pA) = true)
    (apG : PySem.W.nsIn K mainGlobals "grid_of" = some (some (.ref pG)))
    (lpG : K.lookup pG = some ⟨ocpG, odpG, .func (PySem.W.fnOf "grid_of" "grid_of" (defArgs sPGrid) (defBody sPGrid) (defScope sPGrid) .none kVpG dcpG pmpG anpG cdpG ctpG), slpG⟩)
    (dpG : PySem.W.codeIn K cdpG "grid_of" = true)
    (epG : PySem.W.keepIn K (.ref pG) = true)
    (aNu : PySem.W.nsIn K mainGlobals "is_number" = some (some (.ref fNu)))
    (lNu : K.lookup fNu = some ⟨ocNu, odNu, .func (PySem.W.fnOf "is_number" "is_number" (defArgs sPNum) (defBody sPNum) (defScope sPNum) .none kVNu dcNu pmNu anNu cdNu ctNu), slNu⟩)
    (dNu : PySem.W.codeIn K cdNu "is_number" = true)
    (eNu : PySem.W.keepIn K (.ref fNu) = true)
    (aAs : PySem.W.nsIn K mainGlobals "is_ask" = some (some (.ref fAs)))
    (lAs : K.lookup fAs = some ⟨ocAs, odAs, .func (PySem.W.fnOf "is_ask" "is_ask" (defArgs sPAsk) (defBody sPAsk) (defScope sPAsk) .none kVAs dcAs pmAs anAs cdAs ctAs), slAs⟩)
    (dAs : PySem.W.codeIn K cdAs "is_ask" = true)
    (eAs : PySem.W.keepIn K (.ref fAs) = true)
    (aPl : PySem.W.nsIn K mainGlobals "is_place" = some (some (.ref fPl)))
    (lPl : K.lookup fPl = some ⟨ocPl, odPl, .func (PySem.W.fnOf "is_place" "is_place" (defArgs sPPlace) (defBody sPPlace) (defScope sPPlace) .none kVPl dcPl pmPl anPl cdPl ctPl), slPl⟩)
    (dPl : PySem.W.codeIn K cdPl "is_place" = true)
    (ePl : PySem.W.keepIn K (.ref fPl) = true)
    (aMo : PySem.W.nsIn K mainGlobals "is_mode" = some (some (.ref fMo)))
    (lMo : K.lookup fMo = some ⟨ocMo, odMo, .func (PySem.W.fnOf "is_mode" "is_mode" (defArgs sPMode) (defBody sPMode) (defScope sPMode) .none kVMo dcMo pmMo anMo cdMo ctMo), slMo⟩)
    (dMo : PySem.W.codeIn K cdMo "is_mode" = true)
    (eMo : PySem.W.keepIn K (.ref fMo) = true)
    (aNP : PySem.W.nsIn K mainGlobals "need_places" = some (some (.ref fNP)))
    (lNP : K.lookup fNP = some ⟨ocNP, odNP, .func (PySem.W.fnOf "need_places" "need_places" (defArgs sNPlaces) (defBody sNPlaces) (defScope sNPlaces) .none kVNP dcNP pmNP anNP cdNP ctNP), slNP⟩)
    (dNP : PySem.W.codeIn K cdNP "need_places" = true)
    (eNP : PySem.W.keepIn K (.ref fNP) = true)
    (aNM : PySem.W.nsIn K mainGlobals "need_modes" = some (some (.ref fNM)))
    (lNM : K.lookup fNM = some ⟨ocNM, odNM, .func (PySem.W.fnOf "need_modes" "need_modes" (defArgs sNModes) (defBody sNModes) (defScope sNModes) .none kVNM dcNM pmNM anNM cdNM ctNM), slNM⟩)
    (dNM : PySem.W.codeIn K cdNM "need_modes" = true)
    (eNM : PySem.W.keepIn K (.ref fNM) = true)
    (aSt : PySem.W.nsIn K mainGlobals "is_standing" = some (some (.ref fSt)))
    (lSt : K.lookup fSt = some ⟨ocSt, odSt, .func (PySem.W.fnOf "is_standing" "is_standing" (defArgs sPStand) (defBody sPStand) (defScope sPStand) .none kVSt dcSt pmSt anSt cdSt ctSt), slSt⟩)
    (dSt : PySem.W.codeIn K cdSt "is_standing" = true)
    (eSt : PySem.W.keepIn K (.ref fSt) = true)
    (aNs : PySem.W.nsIn K mainGlobals "need_standing" = some (some (.ref fNs)))
    (lNs : K.lookup fNs = some ⟨ocNs, odNs, .func (PySem.W.fnOf "need_standing" "need_standing" (defArgs sNStand) (defBody sNStand) (defScope sNStand) .none kVNs dcNs pmNs anNs cdNs ctNs), slNs⟩)
    (dNs : PySem.W.codeIn K cdNs "need_standing" = true)
    (eNs : PySem.W.keepIn K (.ref fNs) = true)
    (aPr : PySem.W.nsIn K mainGlobals "plain_row" = some (some (.ref fPr)))
    (lPr : K.lookup fPr = some ⟨ocPr, odPr, .func (PySem.W.fnOf "plain_row" "plain_row" (defArgs sPPRow) (defBody sPPRow) (defScope sPPRow) .none kVPr dcPr pmPr anPr cdPr ctPr), slPr⟩)
    (dPr : PySem.W.codeIn K cdPr "plain_row" = true)
    (ePr : PySem.W.keepIn K (.ref fPr) = true)
    (aOr : PySem.W.nsIn K mainGlobals "order_of" = some (some (.ref fOr)))
    (lOr : K.lookup fOr = some ⟨ocOr, odOr, .func (PySem.W.fnOf "order_of" "order_of" (defArgs sPOrder) (defBody sPOrder) (defScope sPOrder) .none kVOr dcOr pmOr anOr cdOr ctOr), slOr⟩)
    (dOr : PySem.W.codeIn K cdOr "order_of" = true)
    (eOr : PySem.W.keepIn K (.ref fOr) = true)
    (aBg : PySem.W.nsIn K mainGlobals "_law_begun" = some (some (.ref fBg)))
    (lBg : K.lookup fBg = some ⟨ocBg, odBg, .func (PySem.W.fnOf "_law_begun" "_law_begun" (defArgs sBegun) (defBody sBegun) (defScope sBegun) .none kVBg dcBg pmBg anBg cdBg ctBg), slBg⟩)
    (dBg : PySem.W.codeIn K cdBg "_law_begun" = true)
    (eBg : PySem.W.keepIn K (.ref fBg) = true)
    (aN : PySem.W.nsIn K mainGlobals "_law_next" = some (some (.ref fN)))
    (lN : K.lookup fN = some ⟨ocN, odN, .func (PySem.W.fnOf "_law_next" "_law_next" (defArgs sNext) (defBody sNext) (defScope sNext) .none kVN dcN pmN anN cdN ctN), slN⟩)
    (dN : PySem.W.codeIn K cdN "_law_next" = true)
    (eN : PySem.W.keepIn K (.ref fN) = true)
    (aNa : PySem.W.nsIn K mainGlobals "_law_names" = some (some (.ref fM)))
    (lNa : K.lookup fM = some ⟨ocNa, odNa, .func (PySem.W.fnOf "_law_names" "_law_names" (defArgs sNames) (defBody sNames) (defScope sNames) .none kVNa dcNa pmNa anNa cdNa ctNa), slNa⟩)
    (dNa : PySem.W.codeIn K cdNa "_law_names" = true)
    (eNa : PySem.W.keepIn K (.ref fM) = true)
    (aSe : PySem.W.nsIn K mainGlobals "_law_settings" = some (some (.ref fSe)))
    (lSe : K.lookup fSe = some ⟨ocSe, odSe, .func (PySem.W.fnOf "_law_settings" "_law_settings" (defArgs sSettings) (defBody sSettings) (defScope sSettings) .none kVSe dcSe pmSe anSe cdSe ctSe), slSe⟩)
    (dSe : PySem.W.codeIn K cdSe "_law_settings" = true)
    (eSe : PySem.W.keepIn K (.ref fSe) = true)
    (aO : PySem.W.nsIn K mainGlobals "_law_odd" = some (some (.ref fO)))
    (lO : K.lookup fO = some ⟨ocO, odO, .func (PySem.W.fnOf "_law_odd" "_law_odd" (defArgs sOdd) (defBody sOdd) (defScope sOdd) .none kVO dcO pmO anO cdO ctO), slO⟩)
    (dO : PySem.W.codeIn K cdO "_law_odd" = true)
    (eO : PySem.W.keepIn K (.ref fO) = true)
    (aB : PySem.W.nsIn K mainGlobals "_law_bent" = some (some (.ref fB)))
    (lB : K.lookup fB = some ⟨ocB, odB, .func (PySem.W.fnOf "_law_bent" "_law_bent" (defArgs sBent) (defBody sBent) (defScope sBent) .none kVB dcB pmB anB cdB ctB), slB⟩)
    (dB : PySem.W.codeIn K cdB "_law_bent" = true)
    (eB : PySem.W.keepIn K (.ref fB) = true)
    (aPc : PySem.W.nsIn K mainGlobals "_law_places" = some (some (.ref fPc)))
    (lPc : K.lookup fPc = some ⟨ocPc, odPc, .func (PySem.W.fnOf "_law_places" "_law_places" (defArgs sPlaces) (defBody sPlaces) (defScope sPlaces) .none kVPc dcPc pmPc anPc cdPc ctPc), slPc⟩)
    (dPc : PySem.W.codeIn K cdPc "_law_places" = true)
    (ePc : PySem.W.keepIn K (.ref fPc) = true)
    (aMd : PySem.W.nsIn K mainGlobals "_law_modes" = some (some (.ref fMd)))
    (lMd : K.lookup fMd = some ⟨ocMd, odMd, .func (PySem.W.fnOf "_law_modes" "_law_modes" (defArgs sModes) (defBody sModes) (defScope sModes) .none kVMd dcMd pmMd anMd cdMd ctMd), slMd⟩)
    (dMd : PySem.W.codeIn K cdMd "_law_modes" = true)
    (eMd : PySem.W.keepIn K (.ref fMd) = true)
    (aLs : PySem.W.nsIn K mainGlobals "_law_standings" = some (some (.ref fLs)))
    (lLs : K.lookup fLs = some ⟨ocLs, odLs, .func (PySem.W.fnOf "_law_standings" "_law_standings" (defArgs sStandings) (defBody sStandings) (defScope sStandings) .none kVLs dcLs pmLs anLs cdLs ctLs), slLs⟩)
    (dLs : PySem.W.codeIn K cdLs "_law_standings" = true)
    (eLs : PySem.W.keepIn K (.ref fLs) = true)
    (aBe : PySem.W.nsIn K mainGlobals "_law_begin" = some (some (.ref fBe)))
    (lBe : K.lookup fBe = some ⟨ocBe, odBe, .func (PySem.W.fnOf "_law_begin" "_law_begin" (defArgs sBegin) (defBody sBegin) (defScope sBegin) .none kVBe dcBe pmBe anBe cdBe ctBe), slBe⟩)
    (dBe : PySem.W.codeIn K cdBe "_law_begin" = true)
    (eBe : PySem.W.keepIn K (.ref fBe) = true)
    (aGo : PySem.W.nsIn K mainGlobals "_law_gone" = some (some (.ref fGo)))
    (lGo : K.lookup fGo = some ⟨ocGo, odGo, .func (PySem.W.fnOf "_law_gone" "_law_gone" (defArgs sGone) (defBody sGone) (defScope sGone) .none kVGo dcGo pmGo anGo cdGo ctGo), slGo⟩)
    (dGo : PySem.W.codeIn K cdGo "_law_gone" = true)
    (eGo : PySem.W.keepIn K (.ref fGo) = true)
    (aLp : PySem.W.nsIn K mainGlobals "_law_plain" = some (some (.ref fLp)))
    (lLp : K.lookup fLp = some ⟨ocLp, odLp, .func (PySem.W.fnOf "_law_plain" "_law_plain" (defArgs sPlain) (defBody sPlain) (defScope sPlain) .none kVLp dcLp pmLp anLp cdLp ctLp), slLp⟩)
    (dLp : PySem.W.codeIn K cdLp "_law_plain" = true)
    (eLp : PySem.W.keepIn K (.ref fLp) = true)
    (aL : PySem.W.nsIn K mainGlobals "law" = some (some (.ref fL)))
    (lL : K.lookup fL = some ⟨ocL, odL, .func (PySem.W.fnOf "law" "law" (defArgs sLaw) (defBody sLaw) (defScope sLaw) .none kVL dcL pmL anL cdL ctL), slL⟩)
    (dL : PySem.W.codeIn K cdL "law" = true)
    (eL : PySem.W.keepIn K (.ref fL) = true)
    (cMOST_SETTINGS : PySem.W.nsIn K mainGlobals "MOST_SETTINGS" = some (some (.int 3 tMOST_SETTINGS)))
    (cMOST_VALUE : PySem.W.nsIn K mainGlobals "MOST_VALUE" = some (some (.int 3 tMOST_VALUE)))
    (cMOST_STANDINGS : PySem.W.nsIn K mainGlobals "MOST_STANDINGS" = some (some (.int 12 tMOST_STANDINGS)))
    (cLONGEST_NAME : PySem.W.nsIn K mainGlobals "LONGEST_NAME" = some (some (.int 8 tLONGEST_NAME)))
    (cMOST_PLACES : PySem.W.nsIn K mainGlobals "MOST_PLACES" = some (some (.int 16 tMOST_PLACES)))
    (z_list : PySem.W.nsIn K mainGlobals "list" = some none)
    (z_len : PySem.W.nsIn K mainGlobals "len" = some none)
    (z_int : PySem.W.nsIn K mainGlobals "int" = some none)
    (z_range : PySem.W.nsIn K mainGlobals "range" = some none)
    (z_tuple : PySem.W.nsIn K mainGlobals "tuple" = some none)
    (z_zip : PySem.W.nsIn K mainGlobals "zip" = some none)
    (z_isinstance : PySem.W.nsIn K mainGlobals "isinstance" = some none)
    (z_str : PySem.W.nsIn K mainGlobals "str" = some none)
    (z_bool : PySem.W.nsIn K mainGlobals "bool" = some none)
    (z_enumerate : PySem.W.nsIn K mainGlobals "enumerate" = some none)
    (z_all : PySem.W.nsIn K mainGlobals "all" = some none)
    (z_repr : PySem.W.nsIn K mainGlobals "repr" = some none)
    (z_min : PySem.W.nsIn K mainGlobals "min" = some none)
     : LawRun P w K mg fa := by
  have e := hfa.symm.trans (PySem.W.mg_of X G aL)
  cases e
  have FieS := fun_mk (st := sIni) lieS dieS eieS
  have bieS := FieS.binds (ps := ["self", "place"]) fun _ _ _ _ _ _ us hl => match us, hl with | [_, _], _ => rfl
  have OXeS : OexC K CS := ⟨⟨_, _, _, _, _, _, _, _, _, _, _, _, _, _, _, XeS, ReS⟩, SeS, EeS, TeS, KeS⟩
  have ECeS : ErrC K CS fES := ⟨OXeS, IeS, YeS, NeS⟩
  have XFeS : XfC K CS := ⟨GeS, HeS, EeS, DeS⟩
  have FieP := fun_mk (st := sIniP) lieP dieP eieP
  have bieP := FieP.binds (ps := ["self", "place"]) fun _ _ _ _ _ _ us hl => match us, hl with | [_, _], _ => rfl
  have OXeP : OexC K CP := ⟨⟨_, _, _, _, _, _, _, _, _, _, _, _, _, _, _, XeP, ReP⟩, SeP, EeP, TeP, KeP⟩
  have ECeP : ErrC K CP fEP := ⟨OXeP, IeP, YeP, NeP⟩
  have XFeP : XfC K CP := ⟨GeP, HeP, EeP, DeP⟩
  have FieM := fun_mk (st := sIniM) lieM dieM eieM
  have bieM := FieM.binds (ps := ["self", "place"]) fun _ _ _ _ _ _ us hl => match us, hl with | [_, _], _ => rfl
  have OXeM : OexC K CM := ⟨⟨_, _, _, _, _, _, _, _, _, _, _, _, _, _, _, XeM, ReM⟩, SeM, EeM, TeM, KeM⟩
  have ECeM : ErrC K CM fEM := ⟨OXeM, IeM, YeM, NeM⟩
  have XFeM : XfC K CM := ⟨GeM, HeM, EeM, DeM⟩
  have FieB := fun_mk (st := sIniS) lieB dieB eieB
  have bieB := FieB.binds (ps := ["self", "value"]) fun _ _ _ _ _ _ us hl => match us, hl with | [_, _], _ => rfl
  have OXeB : OexC K CB := ⟨⟨_, _, _, _, _, _, _, _, _, _, _, _, _, _, _, XeB, ReB⟩, SeB, EeB, TeB, KeB⟩
  have ECeB : ErrF K CB fEB "value" := ⟨OXeB, IeB, YeB, NeB⟩
  have XFeB : XfC K CB := ⟨GeB, HeB, EeB, DeB⟩
  have FR : FunD K "__init__" "Request.__init__" (defArgs sReqIni) (defBody sReqIni) (defScope sReqIni) [.non] [] fR _ := ⟨⟨ocR, odR, _, kVR, dcR, pmR, anR, cdR, ctR, slR, rfl, lR, dR, .inr ⟨nofun, Td, _, [.none], nT, rfl, lT, rfl, .cons rfl .nil⟩, .inl rfl⟩, eR⟩
  obtain ⟨ds4, vd4, b4⟩ := FR.binds1 (ps := ["self", "settings", "places", "modes"]) 4 1 nofun rfl (fun T kV doc pm an cdv ct us its h1 h2 => match us, its, h1, h2 with | [_, _, _, _], [_], _, _ => ⟨_, rfl, rfl⟩)
  cases (show Vals [] ds4 from vd4)
  obtain ⟨ds3, vd3, b3⟩ := FR.binds1 (ps := ["self", "settings", "places", "modes"]) 3 0 nofun rfl (fun T kV doc pm an cdv ct us its h1 h2 => match us, its, h1, h2 with | [_, _, _], [_], _, _ => ⟨_, rfl, rfl⟩)
  obtain ⟨dn, edn⟩ : ∃ dn, ds3 = [dn] := by
    cases (show Vals [.non] ds3 from vd3) with
    | cons _ r => cases r; exact ⟨_, rfl⟩
  subst edn
  have MkC : Mk K C fR := ⟨mkR, IR, fnR, kpR⟩
  have RC : ReqC K C := ⟨⟨pgR, hdR, poR, saR⟩, n0R, n1R, n2R⟩
  have WT : WrT K aE aM := ⟨fun H => .inr ⟨_, _, _, lE, rfl, rfl, (by show 1 ≤ sizeLine; decide), .cons ⟨_, rfl⟩ .nil⟩, fun H => .inr ⟨_, _, _, lM, rfl, rfl, (by show 3 ≤ sizeLine; decide), .cons ⟨_, rfl⟩ (.cons ⟨_, rfl⟩ (.cons ⟨_, rfl⟩ .nil))⟩⟩
  have FPp := fun_mk (st := sReqPlain) lPp dPp ePp
  have bPp := FPp.binds (ps := ["self", "standing"]) fun _ _ _ _ _ _ us hl => match us, hl with | [_, _], _ => rfl
  have MPp : Meth K C "plain" fPp := ⟨IPp, isfPp, ePp⟩
  have FpI := fun_mk (st := sPInt) lpI dpI epI
  have bpI := FpI.binds (ps := ["thing"]) fun _ _ _ _ _ _ us hl => match us, hl with | [_], _ => rfl
  have FpN := fun_mk (st := sPName) lpN dpN epN
  have bpN := FpN.binds (ps := ["thing"]) fun _ _ _ _ _ _ us hl => match us, hl with | [_], _ => rfl
  have FpS := fun_mk (st := sPSet) lpS dpS epS
  have bpS := FpS.binds (ps := ["thing"]) fun _ _ _ _ _ _ us hl => match us, hl with | [_], _ => rfl
  have FpD := fun_mk (st := sNeed) lpD dpD epD
  have bpD := FpD.binds (ps := ["thing"]) fun _ _ _ _ _ _ us hl => match us, hl with | [_], _ => rfl
  have FpA := fun_mk (st := sPNames) lpA dpA epA
  have bpA := FpA.binds (ps := ["settings"]) fun _ _ _ _ _ _ us hl => match us, hl with | [_], _ => rfl
  have FpG := fun_mk (st := sPGrid) lpG dpG epG
  have bpG := FpG.binds (ps := ["settings"]) fun _ _ _ _ _ _ us hl => match us, hl with | [_], _ => rfl
  have FNu := fun_mk (st := sPNum) lNu dNu eNu
  have bNu := FNu.binds (ps := ["many", "thing"]) fun _ _ _ _ _ _ us hl => match us, hl with | [_, _], _ => rfl
  have FAs := fun_mk (st := sPAsk) lAs dAs eAs
  have bAs := FAs.binds (ps := ["settings", "many", "setting", "nexts"]) fun _ _ _ _ _ _ us hl => match us, hl with | [_, _, _, _], _ => rfl
  have FPl := fun_mk (st := sPPlace) lPl dPl ePl
  have bPl := FPl.binds (ps := ["settings", "many", "thing"]) fun _ _ _ _ _ _ us hl => match us, hl with | [_, _, _], _ => rfl
  have FMo := fun_mk (st := sPMode) lMo dMo eMo
  have bMo := FMo.binds (ps := ["thing"]) fun _ _ _ _ _ _ us hl => match us, hl with | [_], _ => rfl
  have FNP := fun_mk (st := sNPlaces) lNP dNP eNP
  have bNP := FNP.binds (ps := ["settings", "places"]) fun _ _ _ _ _ _ us hl => match us, hl with | [_, _], _ => rfl
  have FNM := fun_mk (st := sNModes) lNM dNM eNM
  have bNM := FNM.binds (ps := ["settings", "modes"]) fun _ _ _ _ _ _ us hl => match us, hl with | [_, _], _ => rfl
  have FSt := fun_mk (st := sPStand) lSt dSt eSt
  have bSt := FSt.binds (ps := ["settings", "thing"]) fun _ _ _ _ _ _ us hl => match us, hl with | [_, _], _ => rfl
  have FNs := fun_mk (st := sNStand) lNs dNs eNs
  have bNs := FNs.binds (ps := ["settings", "thing"]) fun _ _ _ _ _ _ us hl => match us, hl with | [_, _], _ => rfl
  have FPr := fun_mk (st := sPPRow) lPr dPr ePr
  have bPr := FPr.binds (ps := ["places", "order", "standing"]) fun _ _ _ _ _ _ us hl => match us, hl with | [_, _, _], _ => rfl
  have FOr := fun_mk (st := sPOrder) lOr dOr eOr
  have bOr := FOr.binds (ps := ["settings"]) fun _ _ _ _ _ _ us hl => match us, hl with | [_], _ => rfl
  have FBg := fun_mk (st := sBegun) lBg dBg eBg
  have bBg := FBg.binds (ps := ["script"]) fun _ _ _ _ _ _ us hl => match us, hl with | [_], _ => rfl
  have FN := fun_mk (st := sNext) lN dN eN
  have bN := FN.binds (ps := ["m", "many"]) fun _ _ _ _ _ _ us hl => match us, hl with | [_, _], _ => rfl
  have FNa := fun_mk (st := sNames) lNa dNa eNa
  have bNa := FNa.binds (ps := ["m", "many"]) fun _ _ _ _ _ _ us hl => match us, hl with | [_, _], _ => rfl
  have FSe := fun_mk (st := sSettings) lSe dSe eSe
  have bSe := FSe.binds (ps := ["m"]) fun _ _ _ _ _ _ us hl => match us, hl with | [_], _ => rfl
  have FO := fun_mk (st := sOdd) lO dO eO
  have bO := FO.binds (ps := ["m"]) fun _ _ _ _ _ _ us hl => match us, hl with | [_], _ => rfl
  have FB := fun_mk (st := sBent) lB dB eB
  have bB := FB.binds (ps := ["m", "thing"]) fun _ _ _ _ _ _ us hl => match us, hl with | [_, _], _ => rfl
  have FPc := fun_mk (st := sPlaces) lPc dPc ePc
  have bPc := FPc.binds (ps := ["m", "spots", "most"]) fun _ _ _ _ _ _ us hl => match us, hl with | [_, _, _], _ => rfl
  have FMd := fun_mk (st := sModes) lMd dMd eMd
  have bMd := FMd.binds (ps := ["m", "spots"]) fun _ _ _ _ _ _ us hl => match us, hl with | [_, _], _ => rfl
  have FLs := fun_mk (st := sStandings) lLs dLs eLs
  have bLs := FLs.binds (ps := ["spots"]) fun _ _ _ _ _ _ us hl => match us, hl with | [_], _ => rfl
  have FBe := fun_mk (st := sBegin) lBe dBe eBe
  have bBe := FBe.binds (ps := ["modes", "standing"]) fun _ _ _ _ _ _ us hl => match us, hl with | [_, _], _ => rfl
  have FGo := fun_mk (st := sGone) lGo dGo eGo
  have bGo := FGo.binds (ps := ["spots", "places", "modes", "spot"]) fun _ _ _ _ _ _ us hl => match us, hl with | [_, _, _, _], _ => rfl
  have FLp := fun_mk (st := sPlain) lLp dLp eLp
  have bLp := FLp.binds (ps := ["spots", "places", "standing"]) fun _ _ _ _ _ _ us hl => match us, hl with | [_, _, _], _ => rfl
  have FL := fun_mk (st := sLaw) lL dL eL
  have TB0 : TxtB mg fN fM fO fB := ⟨⟨⟨⟨PySem.W.mg_none_of X G z_list, PySem.W.mg_none_of X G z_len, PySem.W.mg_none_of X G z_int⟩, PySem.W.mg_of X G aN, PySem.W.mg_none_of X G z_range, PySem.W.mg_none_of X G z_tuple, PySem.W.mg_none_of X G z_zip⟩, PySem.W.mg_of X G aNa⟩, PySem.W.mg_of X G aO, PySem.W.mg_of X G aB, PySem.W.mg_none_of X G z_isinstance, PySem.W.mg_none_of X G z_str, PySem.W.mg_none_of X G z_bool⟩
  have TP : TxtP mg pI pN pS pA pG := ⟨PySem.W.mg_none_of X G z_isinstance, PySem.W.mg_none_of X G z_int, PySem.W.mg_none_of X G z_bool, PySem.W.mg_none_of X G z_str, PySem.W.mg_none_of X G z_tuple, PySem.W.mg_none_of X G z_len, PySem.W.mg_none_of X G z_all, PySem.W.mg_none_of X G z_range, PySem.W.mg_none_of X G z_enumerate, ⟨_, PySem.W.mg_of X G cMOST_SETTINGS⟩, ⟨_, PySem.W.mg_of X G cMOST_VALUE⟩, ⟨_, PySem.W.mg_of X G cMOST_STANDINGS⟩, ⟨_, PySem.W.mg_of X G cLONGEST_NAME⟩, PySem.W.mg_of X G apI, PySem.W.mg_of X G apN, PySem.W.mg_of X G apS, PySem.W.mg_of X G apA, PySem.W.mg_of X G apG⟩
  have TR : TxtR mg pI pN pS pA pG fNu fAs fPl fMo fNP fNM pD aE aM := ⟨TP, PySem.W.mg_of X G aNu, PySem.W.mg_of X G aAs, PySem.W.mg_of X G aPl, PySem.W.mg_of X G aMo, PySem.W.mg_of X G aNP, PySem.W.mg_of X G aNM, PySem.W.mg_of X G apD, PySem.W.mg_of X G AE, PySem.W.mg_of X G AM, ⟨_, PySem.W.mg_of X G cMOST_PLACES⟩⟩
  exact ok_law TB0 (PySem.W.mg_none_of X G z_min) (PySem.W.mg_none_of X G z_repr) TR WT (PySem.W.mg_of X G aBg) (PySem.W.mg_of X G aSe) (PySem.W.mg_of X G aPc) (PySem.W.mg_of X G aMd) (PySem.W.mg_of X G aLs) (PySem.W.mg_of X G aBe) (PySem.W.mg_of X G aGo) (PySem.W.mg_of X G aLp) (PySem.W.mg_of X G AR) (PySem.W.mg_of X G AeS) (PySem.W.mg_of X G AeP) (PySem.W.mg_of X G AeM) (PySem.W.mg_of X G AeB) (PySem.W.mg_of X G aSt) (PySem.W.mg_of X G aNs) (PySem.W.mg_of X G aPr) (PySem.W.mg_of X G aOr) RC MkC MPp ECeS ECeP ECeM ECeB MeB XFeB FL (fun s v => .of_eq rfl) FBg bBg FN bN FNa bNa FSe bSe FO bO FB bB FPc bPc FMd bMd FLs bLs FBe bBe FGo bGo FLp bLp FR b4 FPp bPp FieS bieS FieP bieP FieM bieM FieB bieB FpI bpI FpN bpN FpS bpS FpA bpA FpG bpG FpD bpD FNu bNu FAs bAs FPl bPl FMo bMo FNP bNP FNM bNM FSt bSt FNs bNs FPr bPr FOr bOr
end Ms
open PySem PySem.W PyProof.Rows
set_option maxRecDepth 100000 in
set_option maxHeartbeats 0 in
theorem PySem.Challenge.cw_midswitch_k09_whole_plain_rows_holds : PySem.Challenge.rw_midswitch_k09_whole_plain_rows.Holds := by
  w_on; o_law; k_head; (case hw => w_witness2)
  k_fill
  refine Ms.walk_known (l := PySem.Challenge.rw_midswitch_k09_whole_plain_rows) rfl rfl (fun w h Y => PySem.W.kIn_of Y) ?R
  case R =>
    intro w mg fa h KX G hmg
    refine' Ms.all_mk KX G hmg ?AeS ?XeS ?ReS ?SeS ?EeS ?TeS ?KeS ?IeS ?YeS ?NeS ?GeS ?HeS ?DeS ?MeS ?lieS ?dieS ?eieS ?AeP ?XeP ?ReP ?SeP ?EeP ?TeP ?KeP ?IeP ?YeP ?NeP ?GeP ?HeP ?DeP ?MeP ?lieP ?dieP ?eieP ?AeM ?XeM ?ReM ?SeM ?EeM ?TeM ?KeM ?IeM ?YeM ?NeM ?GeM ?HeM ?DeM ?MeM ?lieM ?dieM ?eieM ?AeB ?XeB ?ReB ?SeB ?EeB ?TeB ?KeB ?IeB ?YeB ?NeB ?GeB ?HeB ?DeB ?MeB ?lieB ?dieB ?eieB ?AR ?IR ?mkR ?fnR ?kpR ?pgR ?hdR ?poR ?saR ?n0R ?n1R ?n2R ?lR ?dR ?eR ?lT ?AE ?AM ?lE ?lM ?IPp ?lPp ?dPp ?ePp ?isfPp ?apI ?lpI ?dpI ?epI ?apN ?lpN ?dpN ?epN ?apS ?lpS ?dpS ?epS ?apD ?lpD ?dpD ?epD ?apA ?lpA ?dpA ?epA ?apG ?lpG ?dpG ?epG ?aNu ?lNu ?dNu ?eNu ?aAs ?lAs ?dAs ?eAs ?aPl ?lPl ?dPl ?ePl ?aMo ?lMo ?dMo ?eMo ?aNP ?lNP ?dNP ?eNP ?aNM ?lNM ?dNM ?eNM ?aSt ?lSt ?dSt ?eSt ?aNs ?lNs ?dNs ?eNs ?aPr ?lPr ?dPr ?ePr ?aOr ?lOr ?dOr ?eOr ?aBg ?lBg ?dBg ?eBg ?aN ?lN ?dN ?eN ?aNa ?lNa ?dNa ?eNa ?aSe ?lSe ?dSe ?eSe ?aO ?lO ?dO ?eO ?aB ?lB ?dB ?eB ?aPc ?lPc ?dPc ?ePc ?aMd ?lMd ?dMd ?eMd ?aLs ?lLs ?dLs ?eLs ?aBe ?lBe ?dBe ?eBe ?aGo ?lGo ?dGo ?eGo ?aLp ?lLp ?dLp ?eLp ?aL ?lL ?dL ?eL ?cMOST_SETTINGS ?cMOST_VALUE ?cMOST_STANDINGS ?cLONGEST_NAME ?cMOST_PLACES ?z_list ?z_len ?z_int ?z_range ?z_tuple ?z_zip ?z_isinstance ?z_str ?z_bool ?z_enumerate ?z_all ?z_repr ?z_min
    (case AeS => k_is)
    (case XeS => k_is)
    (case ReS => rfl)
    (case SeS => k_is)
    (case EeS => k_is)
    (case TeS => k_is)
    (case KeS => k_is)
    (case IeS => k_is)
    (case YeS => k_is)
    (case NeS => k_is)
    (case GeS => k_is)
    (case HeS => k_is)
    (case DeS => k_is)
    (case MeS => kernel_rfl)
    (case lieS => k_is)
    (case dieS => k_is)
    (case eieS => k_is)
    (case AeP => k_is)
    (case XeP => k_is)
    (case ReP => rfl)
    (case SeP => k_is)
    (case EeP => k_is)
    (case TeP => k_is)
    (case KeP => k_is)
    (case IeP => k_is)
    (case YeP => k_is)
    (case NeP => k_is)
    (case GeP => k_is)
    (case HeP => k_is)
    (case DeP => k_is)
    (case MeP => kernel_rfl)
    (case lieP => k_is)
    (case dieP => k_is)
    (case eieP => k_is)
    (case AeM => k_is)
    (case XeM => k_is)
    (case ReM => rfl)
    (case SeM => k_is)
    (case EeM => k_is)
    (case TeM => k_is)
    (case KeM => k_is)
    (case IeM => k_is)
    (case YeM => k_is)
    (case NeM => k_is)
    (case GeM => k_is)
    (case HeM => k_is)
    (case DeM => k_is)
    (case MeM => kernel_rfl)
    (case lieM => k_is)
    (case dieM => k_is)
    (case eieM => k_is)
    (case AeB => k_is)
    (case XeB => k_is)
    (case ReB => rfl)
    (case SeB => k_is)
    (case EeB => k_is)
    (case TeB => k_is)
    (case KeB => k_is)
    (case IeB => k_is)
    (case YeB => k_is)
    (case NeB => k_is)
    (case GeB => k_is)
    (case HeB => k_is)
    (case DeB => k_is)
    (case MeB => kernel_rfl)
    (case lieB => k_is)
    (case dieB => k_is)
    (case eieB => k_is)
    (case AR => k_is)
    (case IR => k_is)
    (case mkR => k_is)
    (case fnR => k_is)
    (case kpR => k_is)
    (case pgR => k_is)
    (case hdR => k_is)
    (case poR => k_is)
    (case saR => k_is)
    (case n0R => k_is)
    (case n1R => k_is)
    (case n2R => k_is)
    (case lR => k_is)
    (case dR => k_is)
    (case eR => k_is)
    (case lT => k_is)
    (case AE => k_is)
    (case AM => k_is)
    (case lE => k_is)
    (case lM => k_is)
    (case IPp => k_is)
    (case lPp => k_is)
    (case dPp => k_is)
    (case ePp => k_is)
    (case isfPp => k_is)
    (case apI => k_is)
    (case lpI => k_is)
    (case dpI => k_is)
    (case epI => k_is)
    (case apN => k_is)
    (case lpN => k_is)
    (case dpN => k_is)
    (case epN => k_is)
    (case apS => k_is)
    (case lpS => k_is)
    (case dpS => k_is)
    (case epS => k_is)
    (case apD => k_is)
    (case lpD => k_is)
    (case dpD => k_is)
    (case epD => k_is)
    (case apA => k_is)
    (case lpA => k_is)
    (case dpA => k_is)
    (case epA => k_is)
    (case apG => k_is)
    (case lpG => k_is)
    (case dpG => k_is)
    (case epG => k_is)
    (case aNu => k_is)
    (case lNu => k_is)
    (case dNu => k_is)
    (case eNu => k_is)
    (case aAs => k_is)
    (case lAs => k_is)
    (case dAs => k_is)
    (case eAs => k_is)
    (case aPl => k_is)
    (case lPl => k_is)
    (case dPl => k_is)
    (case ePl => k_is)
    (case aMo => k_is)
    (case lMo => k_is)
    (case dMo => k_is)
    (case eMo => k_is)
    (case aNP => k_is)
    (case lNP => k_is)
    (case dNP => k_is)
    (case eNP => k_is)
    (case aNM => k_is)
    (case lNM => k_is)
    (case dNM => k_is)
    (case eNM => k_is)
    (case aSt => k_is)
    (case lSt => k_is)
    (case dSt => k_is)
    (case eSt => k_is)
    (case aNs => k_is)
    (case lNs => k_is)
    (case dNs => k_is)
    (case eNs => k_is)
    (case aPr => k_is)
    (case lPr => k_is)
    (case dPr => k_is)
    (case ePr => k_is)
    (case aOr => k_is)
    (case lOr => k_is)
    (case dOr => k_is)
    (case eOr => k_is)
    (case aBg => k_is)
    (case lBg => k_is)
    (case dBg => k_is)
    (case eBg => k_is)
    (case aN => k_is)
    (case lN => k_is)
    (case dN => k_is)
    (case eN => k_is)
    (case aNa => k_is)
    (case lNa => k_is)
    (case dNa => k_is)
    (case eNa => k_is)
    (case aSe => k_is)
    (case lSe => k_is)
    (case dSe => k_is)
    (case eSe => k_is)
    (case aO => k_is)
    (case lO => k_is)
    (case dO => k_is)
    (case eO => k_is)
    (case aB => k_is)
    (case lB => k_is)
    (case dB => k_is)
    (case eB => k_is)
    (case aPc => k_is)
    (case lPc => k_is)
    (case dPc => k_is)
    (case ePc => k_is)
    (case aMd => k_is)
    (case lMd => k_is)
    (case dMd => k_is)
    (case eMd => k_is)
    (case aLs => k_is)
    (case lLs => k_is)
    (case dLs => k_is)
    (case eLs => k_is)
    (case aBe => k_is)
    (case lBe => k_is)
    (case dBe => k_is)
    (case eBe => k_is)
    (case aGo => k_is)
    (case lGo => k_is)
    (case dGo => k_is)
    (case eGo => k_is)
    (case aLp => k_is)
    (case lLp => k_is)
    (case dLp => k_is)
    (case eLp => k_is)
    (case aL => k_is)
    (case lL => k_is)
    (case dL => k_is)
    (case eL => k_is)
    (case cMOST_SETTINGS => k_is)
    (case cMOST_VALUE => k_is)
    (case cMOST_STANDINGS => k_is)
    (case cLONGEST_NAME => k_is)
    (case cMOST_PLACES => k_is)
    (case z_list => k_is)
    (case z_len => k_is)
    (case z_int => k_is)
    (case z_range => k_is)
    (case z_tuple => k_is)
    (case z_zip => k_is)
    (case z_isinstance => k_is)
    (case z_str => k_is)
    (case z_bool => k_is)
    (case z_enumerate => k_is)
    (case z_all => k_is)
    (case z_repr => k_is)
    (case z_min => k_is)
