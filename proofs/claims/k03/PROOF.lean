import PyProof.Rows.All
import Wide.All
import OpenK.AllK
import Wide.FinOn
import PyProof.EqAt
import PyProof.EqKinds
import PyProof.TupleCall
import HandS.ForExc
import HandS.ForMost
import HandS.Dict
import HandS.Comp
import HandS.IsInst
import PyProof.StrBlock2
import HandS.Zip
import HandS.Walk
import KE.GoesNew
import KE.GoesMore
import HandS.TupAny
import HandS.ExcInit
import HandS.ExcField
import HandS.Star
import HandS.StrMore
import HandS.Lambda
import HandS.EndTab
import KE.KNest
import KE.KNestM
import KE.DataCmp
import PyProof.P3Eq
import HandS.Text
import HandS.TupSets
import HandS.DictComp
import HandS.Style
import HandS.Flow
import HandS.Wide
import KE.SortData
import HandS.ForList
import HandS.Set
import HandS.Strs
import HandS.Conv
import HandS.MakeKw
import HandS.MakeKwOnly
import KE.KIntText
import KE.KeyNested
import KE.KRevSl
import PySem.Challenge.RW_midswitch_k03_whole_books_made
set_option Elab.async false
set_option linter.all false
set_option maxRecDepth 100000
set_option maxHeartbeats 4000000
namespace Ms
open PySem PySem.Spec PyProof.Rows L2
section
variable {P : Program} {w : World} {K : PySem.W.Frag} {mg : Str → Option Value} {base : Heap}
theorem deeper_guards {A : Around} {env : Env} (h : A.guards = some []) : (A.deeper env).guards = some [] := h
/-- a def is run where it is known that no guard stands (repr asks for that) -/
theorem run_known {x qual : Str} {st : Stmt} {f : Addr} {fd : FuncData} {N ps : List Str} {k : Nat} (F : Fun K x qual st f fd) (S : FnScope N ps (defScope st))
    {A : Around} {outer : List Env} {s : Shared} {H : Hp} {args : Args} {us : List Value} {vs : List V} {Q : VK} {E : XK}
    (gA : A.guards = some []) (rm : Room (k + 1) A) (st0 : Env0 P w K mg base A outer s H) (bd : BindsTo s fd args (ps.zip us)) (rel : Vals vs us) (ln : vs.length = ps.length)
    (walk : ∀ cdv : Value, Room k (A.deeper (envOfC qual (defScope st) s.heap.objs.size f cdv)) →
      ∃ t, PSs (cxOf CX0 P w K mg base N qual (defScope st) f cdv A outer s H E).nox (defBody st) t ∧ t { nx := fun _ H' => Q .non H', rt := Q } (start N vs) H) :
    codeAny (model P w) A (.call (.ref f) args) (CR CX0 outer P w H s Q E) s := by
  obtain ⟨oc, od, kV, doc, pm, an, cdv, ct, osl, rfl, atK, code⟩ := F.ex
  have inH : K.In s.heap := st0.mod.kin.keeps fun b o q => (st0.bs b o q).1
  have noLim : s.heap.NoLimit := st0.mod.nolimit.keeps fun b o q => (st0.bs b o q).1
  have kinds : ∀ y ∈ ps.zip us, (defScope st).names.lookup y.1 = some .local ∨ ((defScope st).names.lookup y.1 = some .cell ∧ ((cellsFrom (s.heap.objs.size + 1) (defScope st).names []).lookup y.1).isSome = true) := by
    rintro ⟨n, v⟩ hy
    rcases S.par n (List.of_mem_zip hy).1 with z | z
    · exact Or.inl z
    · exact Or.inr ⟨z, PySem.W.cellsFrom_some _ _ _ (.inl z)⟩
  refine codeAny_call_function rm.depth (inH _ _ atK) rfl S.co S.gen rfl (PySem.W.codeRec_of inH code) (bd _ _ _ _ ?_)
  refine wpAny_newFunctionEnv_cells S.kind kinds fun env eq s1 inC => ?_
  subst eq
  refine And.intro (noLim.keeps inC.toInCall.keep) (codeAny_func ?_)
  obtain ⟨t, derives, reads⟩ := walk cdv (rm.deeper _)
  have I := inv_start (CX := CX0) (P := P) (mg := mg) (base := base) (E := E) S rm.hd st0 ln rel inC
  refine wpAny_mono (derives.nox.run [] s1 (start N vs) H _ I reads) (fun fl s' hs => ?_) fun e s' hs => hs
  cases fl with
  | ret u =>
    obtain ⟨v, σ', H', J, rv, q⟩ := hs
    exact ⟨v, H', J.os, J.bare, J.base, J.hok, rv, q⟩
  | next =>
    obtain ⟨σ', H', J, q⟩ := hs
    exact ⟨V.non, H', J.os, J.bare, J.base, J.hok, rfl, q⟩
  | brk => obtain ⟨_, _, _, q⟩ := hs; exact q.elim
  | cont => obtain ⟨_, _, _, q⟩ := hs; exact q.elim

/-- what a law's own def has to show: at a list of at most 63 ints it hands back True, where no guard stands -/
def LawRun (P : Program) (w : World) (K : PySem.W.Frag) (mg : Str → Option Value) (fa : Addr) : Prop :=
  ∀ (base : Heap) (H : Hp) (s : Shared) (a : Addr) (ns : List Int), K.In base → base.Ns mainGlobals mg → SqL K H a (ns.map V.int) → ns.length ≤ 63 → Env0 P w K mg base callerA [] s H →
    codeAny (model P w) callerA (.call (.ref fa) ⟨[.ref a], []⟩) (CR CX0 [] P w H s (fun v _ => v = .bl true) fun _ _ _ => False) s
/-- the script stands alone in the heap that is told: in H only at a, if at all -/
structure Alone (H : Hp) (h : Heap) (K : PySem.W.Frag) (a : Addr) : Prop where
  only : Only H
  here : ∀ b, H b ≠ none → b = a
  off : H a ≠ none → K.lookup a = none
theorem Alone.none {H : Hp} {h : Heap} {K : PySem.W.Frag} {a b : Addr} {o p : Obj} (x : Alone H h K a) (e : h.get? b = some o) (ea : h.get? a = some p) (d : o.data ≠ p.data) : H b = none := by
  cases q : H b with
  | none => rfl
  | some u =>
    have z := x.here b (by rw [q]; exact fun z => nomatch z)
    subst z
    rw [ea] at e
    cases e
    exact absurd rfl d
theorem Alone.ns {H : Hp} {h : Heap} {K : PySem.W.Frag} {a b : Addr} {vs : Array Value} {m : Str → Option Value} (x : Alone H h K a) (ea : h.get? a = some { cls := .type "list", data := .seq vs }) (n : h.Ns b m) : (hidT h H).Ns b m := by
  obtain ⟨o, es, ep, e, d, r⟩ := n
  refine ⟨o, es, ep, hidT_get e (x.none e ea ?_), d, r⟩
  rw [d]
  intro z
  cases z
theorem Alone.kin {H : Hp} {h : Heap} {K : PySem.W.Frag} {a : Addr} (x : Alone H h K a) (X : K.In h) : K.In (hidT h H) := by
  intro b o e
  refine hidT_get (X b o e) ?_
  cases q : H b with
  | none => rfl
  | some u =>
    have z := x.here b (by rw [q]; exact fun z => nomatch z)
    subst z
    rw [x.off (by rw [q]; exact fun z => nomatch z)] at e
    cases e
theorem law_ends {fa a : Addr} {s : Shared} {vs : List Value} {ns : List Int} {mb : Str → Option Value} {H : Hp} (R : LawRun P w K mg fa) (al : Alone H s.heap K a)
    (X : K.In s.heap) (g : s.heap.Ns mainGlobals mg) (b : s.heap.Ns builtinsNs mb) (bb : ∀ x : Str, x ≠ "__name__" → mb x = bootBuiltins x) (lim : s.heap.NoLimit) (gs : s.gens = #[])
    (ea : s.heap.get? a = some { cls := .type "list", data := .seq vs.toArray }) (hS : SqL K H a (ns.map V.int)) (hl : ns.length ≤ 63) (ok : HOk P w H s.heap) :
    codeAny (model P w) callerA (.call (.ref fa) ⟨[.ref a], []⟩) (fun r s' => r = .ok (.ret (.bool true)) ∧ OldK s.heap s'.heap ∧ s'.os = s.os ∧ AllBare s'.gens) s := by
  have M : Mod K mg (hidT s.heap H) := by
    refine ⟨al.kin X, al.ns ea g, ⟨mb, al.ns ea b, bb⟩, ?_⟩
    obtain ⟨mc, l1, l2⟩ := lim
    exact ⟨mc, al.ns ea l1, l2⟩
  have st0 : Env0 P w K mg (hidT s.heap H) callerA [] s H := by
    refine ⟨rfl, M, fun b o e => of_hidT e, Nat.le_of_eq (hidT_size _ _), trivial, fun b hb => ?_, ok, AllBare.of_eq gs⟩
    cases (show b ∈ ([] : List Addr) from hb)
  refine codeAny_mono (R _ H s a ns M.kin M.glob hS hl st0) fun r s' q => ?_
  match r, q with
  | .error e, q => exact False.elim q
  | .ok (.next), q => exact False.elim q
  | .ok (.brk), q => exact False.elim q
  | .ok (.cont), q => exact False.elim q
  | .ok (.ret u), q =>
    obtain ⟨v, H', eos, bare, un, ok', rv, qv⟩ := q
    have qv' : v = .bl true := qv
    subst qv'
    obtain rfl : u = Value.bool true := rv
    refine And.intro rfl (And.intro (OldK.of_keep fun c o e => ?_) (And.intro eos bare))
    rcases al.only c with z | ⟨ob, xs, z⟩
    · exact un.keep c o e z (fun y => by cases (show c ∈ ([] : List Addr) from y)) (by simp)
    · have h1 := (ok c _ z).1
      have h2 := (ok' c _ (un.frzs c ob _ z)).1
      rw [e] at h1
      cases h1
      exact h2
theorem law_known {fa a : Addr} {s : Shared} {vs : List Value} {ns : List Int} {mb : Str → Option Value} (R : LawRun P w K mg fa)
    (X : K.In s.heap) (g : s.heap.Ns mainGlobals mg) (b : s.heap.Ns builtinsNs mb) (bb : ∀ x : Str, x ≠ "__name__" → mb x = bootBuiltins x) (lim : s.heap.NoLimit) (gs : s.gens = #[])
    (ea : s.heap.get? a = some { cls := .type "list", data := .seq vs.toArray }) (hi : IntsAre vs ns) (hl : ns.length ≤ 63) :
    codeAny (model P w) callerA (.call (.ref fa) ⟨[.ref a], []⟩) (fun r s' => r = .ok (.ret (.bool true)) ∧ OldK s.heap s'.heap ∧ s'.os = s.os ∧ AllBare s'.gens) s := by
  have rel := vals_ints hi
  have ll := hi.length
  have hl2 : ns.length ≤ sizeLine := Nat.le_trans hl (by decide)
  cases lk : K.lookup a with
  | some o =>
    have e := X a o lk
    rw [ea] at e
    cases e
    refine law_ends (H := fun _ => Option.none) R ⟨fun _ => .inl rfl, fun _ z => absurd rfl z, fun z => absurd rfl z⟩ X g b bb lim gs ea ?_ hl (fun _ _ z => by cases (show (Option.none : Option HO) = some _ from z))
    refine .inr ⟨_, vs.toArray, _, lk, rfl, rfl, rfl, ?_, by simpa using rel⟩
    rw [List.size_toArray, ll]
    exact hl2
  | none =>
    let o0 : HO := .frz { cls := .type "list", data := .seq vs.toArray } (.lst (ns.map V.int))
    have at0 : ∀ c u, (fun c => if c = a then some o0 else Option.none) c = some u → c = a ∧ u = o0 := fun c u z => by
      by_cases hc : c = a
      · have z' := (if_pos hc).symm.trans z
        exact ⟨hc, (Option.some.inj z').symm⟩
      · have z' := (if_neg hc).symm.trans z
        cases z'
    refine law_ends (H := fun c => if c = a then some o0 else Option.none) R ⟨fun c => ?_, fun c z => ?_, fun _ => lk⟩ X g b bb lim gs ea (.inl (.inr ⟨_, if_pos rfl⟩)) hl (fun c u z => ?_)
    · by_cases hc : c = a
      · exact .inr ⟨_, _, if_pos hc⟩
      · exact .inl (if_neg hc)
    · by_cases hc : c = a
      · exact hc
      · exact absurd (if_neg hc) z
    · obtain ⟨hc, hu⟩ := at0 c u z
      subst hc
      subst hu
      exact ⟨ea, by rw [List.length_map]; exact hl2, vs, _, rel, ea⟩
/-- the end of a law's row -/
theorem walk_known {l : PySem.W.OpenLaw} {q : Program} {loose : List Str} {XP : (Str → Option Value) → Heap → Prop} {YP : World → Heap → Prop} {d : DefRec} {K : Params → PySem.W.Frag} (hn : l.most = some 63) (hdf : d.params.defaults = [])
    (hY : ∀ (w : World) (h : Heap), YP w h → (K w.params).In h)
    (R : ∀ (w : World) (mg : Str → Option Value) (fa : Addr) (h : Heap), (K w.params).In h → h.Ns mainGlobals mg → mg d.name = some (.ref fa) → LawRun l.prog w (K w.params) mg fa) :
    PySem.W.WalkO q loose XP YP l.row.toRowW d [] (fun f vs => PySem.call f vs) := by
  refine Att.attach_call hn hdf fun w s₀ s₁ mg mb fa o pm cd doc a vs ns G Y ho hd hcd hmg hobj hints hlen hg => ?_
  have KX := hY w _ Y
  exact law_known (R w mg fa _ KX G.T.g hmg) KX G.T.g G.T.b G.T.builtins G.T.nolimit hg hobj hints hlen
end

/-! ### data, and its repr -/
mutual
/-- v is the data d; its lists and dicts are none of the machine's two -/
inductive Dq (K : PySem.W.Frag) (H : Hp) (m l : Addr) : V → PyData → Prop
  | non : Dq K H m l .non .none
  | bl (b : Bool) : Dq K H m l (.bl b) (.bool b)
  | int (i : Int) : Dq K H m l (.int i) (.int i)
  | str (x : Str) : Dq K H m l (.str x) (.str x)
  | lst {a : Addr} {xs : List V} {ds : List PyData} : H a = some (.lst xs) → a ≠ m → a ≠ l → DqAll K H m l xs ds → Dq K H m l (.ref a) (.list ds)
  | tup {a : Addr} {xs : List V} {ds : List PyData} : SqT K H a xs → DqAll K H m l xs ds → Dq K H m l (.ref a) (.tuple ds)
  | dct {a : Addr} : H a = some (.dK []) → a ≠ m → a ≠ l → Dq K H m l (.ref a) (.dict [])
inductive DqAll (K : PySem.W.Frag) (H : Hp) (m l : Addr) : List V → List PyData → Prop
  | nil : DqAll K H m l [] []
  | cons {v : V} {vs : List V} {d : PyData} {ds : List PyData} : Dq K H m l v d → DqAll K H m l vs ds → DqAll K H m l (v :: vs) (d :: ds)
end
/-- from one heap to another one: what is not the machine's stands, and is not the machine's then -/
structure Kept (m l l' : Addr) (H H' : Hp) : Prop where
  keep : ∀ b o, H b = some o → b ≠ m → b ≠ l → H' b = some o
  ne : ∀ b o, H b = some o → b ≠ l → b ≠ l'
  am : ∃ z, H m = some (.dK z)
  al : ∃ z, H l = some (.lst z)
theorem Kept.tup {K : PySem.W.Frag} {m l l' a : Addr} {H H' : Hp} {xs : List V} (k : Kept m l l' H H') (h : SqT K H a xs) : SqT K H' a xs := by
  obtain ⟨z1, e1⟩ := k.am
  obtain ⟨z2, e2⟩ := k.al
  rcases h with (h | ⟨o, h⟩) | h
  · exact .inl (.inl (k.keep a _ h (ne_of h e1 (by intro z; cases z)) (ne_of h e2 (by intro z; cases z))))
  · exact .inl (.inr ⟨o, k.keep a _ h (ne_of h e1 (by intro z; cases z)) (ne_of h e2 (by intro z; cases z))⟩)
  · exact .inr h
mutual
theorem Dq.step {K : PySem.W.Frag} {m l l' : Addr} {H H' : Hp} (k : Kept m l l' H H') : ∀ (d : PyData) (v : V), Dq K H m l v d → Dq K H' m l' v d
  | .none, _, h => by cases h; exact .non
  | .bool b, _, h => by cases h; exact .bl b
  | .int i, _, h => by cases h; exact .int i
  | .str x, _, h => by cases h; exact .str x
  | .list ds, _, h => by
    cases h with
    | lst e n1 n2 t => exact .lst (k.keep _ _ e n1 n2) n1 (k.ne _ _ e n2) (DqAll.step k ds _ t)
  | .tuple ds, _, h => by
    cases h with
    | tup e t => exact .tup (k.tup e) (DqAll.step k ds _ t)
  | .dict _, _, h => by
    cases h with
    | dct e n1 n2 => exact .dct (k.keep _ _ e n1 n2) n1 (k.ne _ _ e n2)
theorem DqAll.step {K : PySem.W.Frag} {m l l' : Addr} {H H' : Hp} (k : Kept m l l' H H') : ∀ (ds : List PyData) (vs : List V), DqAll K H m l vs ds → DqAll K H' m l' vs ds
  | [], _, h => by cases h; exact .nil
  | d :: ds, _, h => by
    cases h with
    | cons h1 h2 => exact .cons (Dq.step k d _ h1) (DqAll.step k ds _ h2)
end
section
variable {X : Cx} {pins : List (Addr × Obj)} {σ : L2.St} {H : Hp} {s : Shared} {m l : Addr}
mutual
theorem Dq.reads (I : Inv X pins σ H s) (hs : H sysModules = none) : ∀ (d : PyData) (v : V) (u : Value), Dq X.K H m l v d → RelV v u → ∃ as, Reads s.heap u d as ∧ sysModules ∉ as
  | .none, _, _, h, r => by cases h; cases r; exact ⟨_, .none, by simp⟩
  | .bool b, _, _, h, r => by cases h; cases r; exact ⟨_, .bool b, by simp⟩
  | .int i, _, _, h, r => by cases h; obtain ⟨t, rfl⟩ := r; exact ⟨_, .int i t, by simp⟩
  | .str x, _, _, h, r => by cases h; obtain ⟨t, rfl⟩ := r; exact ⟨_, .str x t, by simp⟩
  | .list ds, _, _, h, r => by
    cases h with
    | lst e n1 n2 t =>
      cases r
      obtain ⟨its, rv, ⟨o, n, ho, hc, _, hd⟩, _⟩ := I.list (SqL.of e)
      obtain ⟨as, q1, q2⟩ := DqAll.reads I hs ds _ its t rv
      refine ⟨_, Reads.list ho hc hd q1, fun z => ?_⟩
      rcases List.mem_cons.mp z with z | z
      · rw [← z, hs] at e; cases e
      · exact q2 z
  | .tuple ds, _, _, h, r => by
    cases h with
    | tup e t =>
      cases r
      obtain ⟨its, rv, ⟨o, ho, hc, n, hd⟩, _⟩ := I.tuple e
      obtain ⟨as, q1, q2⟩ := DqAll.reads I hs ds _ its t rv
      exact ⟨_, Reads.tuple ho hc hd q1, q2⟩
  | .dict _, _, _, h, r => by
    cases h with
    | dct e n1 n2 =>
      cases r
      obtain ⟨z, hd, vs, rel, dd⟩ := dk_of I.hok e
      cases rel
      obtain ⟨o, es, ep, ho, hc, hdat, hlay⟩ := id dd
      have e0 : es.toList = [] := by
        have p := hlay.2.1
        cases q : es.toList with
        | nil => rfl
        | cons z zs => rw [q] at p; cases p
      refine ⟨_, Reads.dict (as := []) (bs := []) ho hc.1 hdat ?_ ?_, ?_⟩
      · rw [e0]; exact .nil
      · rw [e0]; exact .nil
      · intro z
        have z2 := List.mem_singleton.mp (show sysModules ∈ [_] from z)
        rw [← z2, hs] at e
        cases e
theorem DqAll.reads (I : Inv X pins σ H s) (hs : H sysModules = none) : ∀ (ds : List PyData) (vs : List V) (us : List Value), DqAll X.K H m l vs ds → Vals vs us → ∃ as, ReadsAll s.heap us ds as ∧ sysModules ∉ as
  | [], _, _, h, r => by cases h; cases r; exact ⟨_, .nil, by simp⟩
  | d :: ds, _, _, h, r => by
    cases h with
    | cons h1 h2 =>
      cases r with
      | cons r1 r2 =>
        obtain ⟨as, q1, p1⟩ := Dq.reads I hs d _ _ h1 r1
        obtain ⟨bs, q2, p2⟩ := DqAll.reads I hs ds _ _ h2 r2
        exact ⟨_, .cons q1 q2, fun z => (List.mem_append.mp z).elim p1 p2⟩
end
theorem no_sys {o : Obj} (hk : X.K.lookup sysModules = some o) (I : Inv X pins σ H s) : H sysModules = none := (I.bs _ _ (I.ok.mod.kin _ _ hk)).2
end
/-- repr(x) -/
theorem call_repr {X : Cx} {o : Obj} (hg : X.A.guards = some []) (hu : X.A.units + 64 < cLine) (hk : X.K.lookup sysModules = some o) :
    CallR X (.builtin "repr") (fun xs H Q => ∃ x d m l, xs = [x] ∧ Dq X.K H m l x d ∧ d.showable = true ∧ d.depth ≤ 60 ∧ d.shown.length ≤ sizeLine ∧ Q (.str d.shown) H) := by
  intro pins s σ H xs us Q I r h
  obtain ⟨x, d, m, l, rfl, hd, hs, hdep, hlen, q⟩ := h
  obtain ⟨u, rfl, rx⟩ := vals1 r
  obtain ⟨as, rd, na⟩ := Dq.reads I (no_sys hk I) d x u hd rx
  cases rd with
  | none => exact PySem.P.repr_of_none ⟨V.str _, H, I.tok _, ⟨_, rfl⟩, by simpa only [PyData.shown] using q⟩
  | bool b => exact PySem.P.repr_of_bool ⟨V.str _, H, I.tok _, ⟨_, rfl⟩, by simpa only [PyData.shown] using q⟩
  | int i t => exact PySem.P.repr_of_int (by simpa [PyData.showable] using hs) ⟨V.str _, H, I.tok _, ⟨_, rfl⟩, by simpa only [PyData.shown] using q⟩
  | str y t => exact PySem.P.repr_of_str ⟨V.str _, H, I.tok _, ⟨_, rfl⟩, by simpa only [PyData.shown] using q⟩ (by simpa only [PyData.shown] using hlen)
  | list h1 h2 h3 h4 => exact repr_of_reads' (.list h1 h2 h3 h4) hs (fun _ => na) hg (by omega) (fun _ _ e => e) (fun h' u' tk k => ⟨V.str _, H, I.kept k, ⟨_, rfl⟩, q⟩) hlen
  | tuple h1 h2 h3 h4 => exact repr_of_reads' (.tuple h1 h2 h3 h4) hs (fun _ => na) hg (by omega) (fun _ _ e => e) (fun h' u' tk k => ⟨V.str _, H, I.kept k, ⟨_, rfl⟩, q⟩) hlen
  | dict h1 h2 h3 h4 h5 => exact repr_of_reads' (.dict h1 h2 h3 h4 h5) hs (fun _ => na) hg (by omega) (fun _ _ e => e) (fun h' u' tk k => ⟨V.str _, H, I.kept k, ⟨_, rfl⟩, q⟩) hlen

/-! ### the same, of data that is a dict or bears none -/
def plainD : PyData → Bool
  | .dict [] => true
  | d => !d.hasDict
section
variable {X : Cx} {pins : List (Addr × Obj)} {σ : L2.St} {H : Hp} {s : Shared} {m l : Addr}
mutual
theorem Dq.reads0 (I : Inv X pins σ H s) : ∀ (d : PyData) (v : V) (u : Value), Dq X.K H m l v d → RelV v u → ∃ as, Reads s.heap u d as ∧ (d = .dict [] → sysModules ∉ as)
  | .none, _, _, h, r => by cases h; cases r; exact ⟨_, .none, by simp⟩
  | .bool b, _, _, h, r => by cases h; cases r; exact ⟨_, .bool b, by simp⟩
  | .int i, _, _, h, r => by cases h; obtain ⟨t, rfl⟩ := r; exact ⟨_, .int i t, by simp⟩
  | .str x, _, _, h, r => by cases h; obtain ⟨t, rfl⟩ := r; exact ⟨_, .str x t, by simp⟩
  | .list ds, _, _, h, r => by
    cases h with
    | lst e n1 n2 t =>
      cases r
      obtain ⟨its, rv, ⟨o, n, ho, hc, _, hd⟩, _⟩ := I.list (SqL.of e)
      obtain ⟨as, q1⟩ := DqAll.reads0 I ds _ its t rv
      exact ⟨_, Reads.list ho hc hd q1, fun z => nomatch z⟩
  | .tuple ds, _, _, h, r => by
    cases h with
    | tup e t =>
      cases r
      obtain ⟨its, rv, ⟨o, ho, hc, n, hd⟩, _⟩ := I.tuple e
      obtain ⟨as, q1⟩ := DqAll.reads0 I ds _ its t rv
      exact ⟨_, Reads.tuple ho hc hd q1, fun z => nomatch z⟩
  | .dict _, _, _, h, r => by
    cases h with
    | dct e n1 n2 =>
      cases r
      obtain ⟨z, hd, vs, rel, dd⟩ := dk_of I.hok e
      cases rel
      obtain ⟨o, es, ep, ho, hc, hdat, hlay⟩ := id dd
      have e0 : es.toList = [] := by
        have p := hlay.2.1
        cases q : es.toList with
        | nil => rfl
        | cons z zs => rw [q] at p; cases p
      refine ⟨_, Reads.dict (as := []) (bs := []) ho hc.1 hdat ?_ ?_, fun _ z => ?_⟩
      · rw [e0]; exact .nil
      · rw [e0]; exact .nil
      · have z2 := List.mem_singleton.mp (show sysModules ∈ [_] from z)
        rw [← z2] at hd
        exact absurd hd (by decide)
theorem DqAll.reads0 (I : Inv X pins σ H s) : ∀ (ds : List PyData) (vs : List V) (us : List Value), DqAll X.K H m l vs ds → Vals vs us → ∃ as, ReadsAll s.heap us ds as
  | [], _, _, h, r => by cases h; cases r; exact ⟨_, .nil⟩
  | d :: ds, _, _, h, r => by
    cases h with
    | cons h1 h2 =>
      cases r with
      | cons r1 r2 =>
        obtain ⟨as, q1, p1⟩ := Dq.reads0 I d _ _ h1 r1
        obtain ⟨bs, q2⟩ := DqAll.reads0 I ds _ _ h2 r2
        exact ⟨_, .cons q1 q2⟩
end
end
theorem plain_off {d : PyData} {as : List Addr} (p : plainD d = true) (h : d = .dict [] → sysModules ∉ as) : d.hasDict = true → sysModules ∉ as := fun z => by
  cases d with
  | dict kvs =>
    cases kvs with
    | nil => exact h rfl
    | cons a b =>
      have p' : (!(PyData.dict (a :: b)).hasDict) = true := p
      rw [z] at p'
      cases p'
  | _ =>
    have p' := p
    simp only [plainD, Bool.not_eq_true'] at p'
    rw [z] at p'
    cases p'
theorem call_repr0 {X : Cx} (hg : X.A.guards = some []) (hu : X.A.units + 64 < cLine) :
    CallR X (.builtin "repr") (fun xs H Q => ∃ x d m l, xs = [x] ∧ Dq X.K H m l x d ∧ plainD d = true ∧ d.showable = true ∧ d.depth ≤ 60 ∧ d.shown.length ≤ sizeLine ∧ Q (.str d.shown) H) := by
  intro pins s σ H xs us Q I r h
  obtain ⟨x, d, m, l, rfl, hd, hp, hs, hdep, hlen, q⟩ := h
  obtain ⟨u, rfl, rx⟩ := vals1 r
  obtain ⟨as, rd, na0⟩ := Dq.reads0 I d x u hd rx
  have na := plain_off hp na0
  cases rd with
  | none => exact PySem.P.repr_of_none ⟨V.str _, H, I.tok _, ⟨_, rfl⟩, by simpa only [PyData.shown] using q⟩
  | bool b => exact PySem.P.repr_of_bool ⟨V.str _, H, I.tok _, ⟨_, rfl⟩, by simpa only [PyData.shown] using q⟩
  | int i t => exact PySem.P.repr_of_int (by simpa [PyData.showable] using hs) ⟨V.str _, H, I.tok _, ⟨_, rfl⟩, by simpa only [PyData.shown] using q⟩
  | str y t => exact PySem.P.repr_of_str ⟨V.str _, H, I.tok _, ⟨_, rfl⟩, by simpa only [PyData.shown] using q⟩ (by simpa only [PyData.shown] using hlen)
  | list h1 h2 h3 h4 => exact repr_of_reads' (.list h1 h2 h3 h4) hs na hg (by omega) (fun _ _ e => e) (fun h' u' tk k => ⟨V.str _, H, I.kept k, ⟨_, rfl⟩, q⟩) hlen
  | tuple h1 h2 h3 h4 => exact repr_of_reads' (.tuple h1 h2 h3 h4) hs na hg (by omega) (fun _ _ e => e) (fun h' u' tk k => ⟨V.str _, H, I.kept k, ⟨_, rfl⟩, q⟩) hlen
  | dict h1 h2 h3 h4 h5 => exact repr_of_reads' (.dict h1 h2 h3 h4 h5) hs na hg (by omega) (fun _ _ e => e) (fun h' u' tk k => ⟨V.str _, H, I.kept k, ⟨_, rfl⟩, q⟩) hlen
end Ms
namespace Ms
open PySem PySem.Spec PyProof.Rows L2
/-! ### repr of any such data: no dict of it is the interpreter's own, and that is all that is asked -/
section
variable {X : Cx} {pins : List (Addr × Obj)} {σ : L2.St} {H : Hp} {s : Shared} {m l : Addr}
mutual
theorem Dq.shows (I : Inv X pins σ H s) : ∀ (d : PyData) (v : V) (u : Value), Dq X.K H m l v d → RelV v u → d.showable = true → d.shown.length ≤ sizeLine →
    ∃ as bs, Reads s.heap u d as ∧ ReadAtMost s.heap d.depth bs ∧ ReprK X.prog X.w bs s.heap d.depth u d.shown
  | .none, _, _, h, r, hs, hz => by
    cases h; cases r
    obtain ⟨bs, p, q⟩ := ReprK.of_reads (prog := X.prog) (w := X.w) (h₀ := s.heap) .none hs (fun z => by simp [PyData.hasDict] at z) hz
    exact ⟨_, bs, .none, p, q⟩
  | .bool b, _, _, h, r, hs, hz => by
    cases h; cases r
    obtain ⟨bs, p, q⟩ := ReprK.of_reads (prog := X.prog) (w := X.w) (h₀ := s.heap) (.bool b) hs (fun z => by simp [PyData.hasDict] at z) hz
    exact ⟨_, bs, .bool b, p, q⟩
  | .int i, _, _, h, r, hs, hz => by
    cases h; obtain ⟨t, rfl⟩ := r
    obtain ⟨bs, p, q⟩ := ReprK.of_reads (prog := X.prog) (w := X.w) (h₀ := s.heap) (.int i t) hs (fun z => by simp [PyData.hasDict] at z) hz
    exact ⟨_, bs, .int i t, p, q⟩
  | .str x, _, _, h, r, hs, hz => by
    cases h; obtain ⟨t, rfl⟩ := r
    obtain ⟨bs, p, q⟩ := ReprK.of_reads (prog := X.prog) (w := X.w) (h₀ := s.heap) (.str x t) hs (fun z => by simp [PyData.hasDict] at z) hz
    exact ⟨_, bs, .str x t, p, q⟩
  | .list ds, _, _, h, r, hs, hz => by
    cases h with
    | lst e n1 n2 t =>
      cases r
      obtain ⟨its, rv, ⟨o, n, ho, hc, _, hd⟩, _⟩ := I.list (SqL.of e)
      have fits : (listText (PyData.shownAll ds)).length ≤ sizeLine := by simpa only [PyData.shown] using hz
      obtain ⟨as, bs, r1, p, q⟩ := DqAll.shows I ds _ its t rv (by simpa [PyData.showable] using hs) fun x hx => Nat.le_trans (listText_mem_le hx) fits
      have rd := Reads.list ho hc hd r1
      have off := not_mem_of_deeper rd (by simp only [PyData.depth]; omega) p
      refine ⟨_, _, rd, ReadAtMost.cons rd (by simp only [PyData.depth]; omega) p, ?_⟩
      simp only [PyData.depth, PyData.shown]
      cases its with
      | nil =>
        cases r1
        simp only [PyData.shownAll, listText_nil]
        exact ReprK.listEmpty ho hc hd
      | cons y ys => exact ReprK.list ho hc hd off (by simpa using q.length_eq) fun i z e => q.item i z (by simpa using e)
  | .tuple ds, _, _, h, r, hs, hz => by
    cases h with
    | tup e t =>
      cases r
      obtain ⟨its, rv, ⟨o, ho, hc, n, hd⟩, _⟩ := I.tuple e
      have fits : (tupleText (PyData.shownAll ds)).length ≤ sizeLine := by simpa only [PyData.shown] using hz
      obtain ⟨as, bs, r1, p, q⟩ := DqAll.shows I ds _ its t rv (by simpa [PyData.showable] using hs) fun x hx => Nat.le_trans (tupleText_mem_le hx) fits
      have rd := Reads.tuple ho hc hd r1
      have off := not_mem_of_deeper rd (by simp only [PyData.depth]; omega) p
      refine ⟨_, _, rd, ReadAtMost.cons rd (by simp only [PyData.depth]; omega) p, ?_⟩
      simp only [PyData.depth, PyData.shown]
      exact ReprK.tuple ho hc hd off q
  | .dict kvs, v, u, h, r, hs, hz => by
    obtain ⟨as, rd, na⟩ := Dq.reads0 I (.dict kvs) v u h r
    cases h with
    | dct e n1 n2 =>
      obtain ⟨bs, p, q⟩ := ReprK.of_reads (prog := X.prog) (w := X.w) rd hs (fun _ => na rfl) hz
      exact ⟨as, bs, rd, p, q⟩
theorem DqAll.shows (I : Inv X pins σ H s) : ∀ (ds : List PyData) (vs : List V) (us : List Value), DqAll X.K H m l vs ds → Vals vs us → PyData.showableAll ds = true → (∀ t ∈ PyData.shownAll ds, t.length ≤ sizeLine) →
    ∃ as bs, ReadsAll s.heap us ds as ∧ ReadAtMost s.heap (PyData.depthAll ds) bs ∧ ReprAllK X.prog X.w bs s.heap (PyData.depthAll ds) us (PyData.shownAll ds)
  | [], _, _, h, r, _, _ => by
    cases h; cases r
    exact ⟨_, [], .nil, (fun _ z => nomatch z), by simp only [PyData.shownAll]; exact .nil⟩
  | d :: ds, _, _, h, r, hs, hz => by
    cases h with
    | cons h1 h2 =>
      cases r with
      | cons r1 r2 =>
        have both : d.showable = true ∧ PyData.showableAll ds = true := by simpa [PyData.showableAll] using hs
        obtain ⟨as1, bs1, rd1, p1, q1⟩ := Dq.shows I d _ _ h1 r1 both.1 (hz _ (by simp only [PyData.shownAll]; exact List.mem_cons_self ..))
        obtain ⟨as2, bs2, rd2, p2, q2⟩ := DqAll.shows I ds _ _ h2 r2 both.2 (fun x hx => hz x (by simp only [PyData.shownAll]; exact List.mem_cons_of_mem _ hx))
        refine ⟨_, bs1 ++ bs2, .cons rd1 rd2, ?_, ?_⟩
        · simp only [PyData.depthAll]
          exact (p1.mono (Nat.le_max_left _ _)).append (p2.mono (Nat.le_max_right _ _))
        · simp only [PyData.depthAll, PyData.shownAll]
          exact .cons ((q1.more fun b hb => List.mem_append_left _ hb).level_le (Nat.le_max_left _ _)) (q2.more_le (fun b hb => List.mem_append_right _ hb) (Nat.le_max_right _ _))
end
end
/-- repr(x) -/
theorem call_reprD {X : Cx} (hg : X.A.guards = some []) (hu : X.A.units + 64 < cLine) :
    CallR X (.builtin "repr") (fun xs H Q => ∃ x d m l, xs = [x] ∧ Dq X.K H m l x d ∧ d.showable = true ∧ d.depth ≤ 60 ∧ d.shown.length ≤ sizeLine ∧ Q (.str d.shown) H) := by
  intro pins s σ H xs us Q I r h
  obtain ⟨x, d, m, l, rfl, hd, hs, hdep, hlen, q⟩ := h
  cases d with
  | list ds =>
    obtain ⟨u, rfl, rx⟩ := vals1 r
    cases hd with
    | lst e n1 n2 t =>
      cases rx
      obtain ⟨its, rv, ⟨o, n, ho, hc, _, hdt⟩, _⟩ := I.list (SqL.of e)
      have fits : (listText (PyData.shownAll ds)).length ≤ sizeLine := by simpa only [PyData.shown] using hlen
      obtain ⟨as, bs, r1, p, k⟩ := DqAll.shows I ds _ its t rv (by simpa [PyData.showable] using hs) fun y hy => Nat.le_trans (listText_mem_le hy) fits
      have rd := Reads.list ho hc hdt r1
      have off := not_mem_of_deeper rd (by simp only [PyData.depth]; omega) p
      simp only [PyData.depth] at hdep
      refine call_repr_slot (by omega) ⟨o, ho, hc⟩ F.slot_list_repr.toG ?_
      have fin : ∀ (h' : Heap) (u : Tok) (tk : Nat), (∀ b o, s.heap.get? b = some o → h'.get? b = some o) → ∃ x t, Value.str (PyData.list ds).shown u = Value.str x t ∧ EP X pins σ Q (Value.str (PyData.list ds).shown u) { s with heap := h', toks := tk } := fun h' u tk k => ⟨_, _, rfl, V.str _, H, I.kept k, ⟨_, rfl⟩, q⟩
      simp only [PyData.shown] at fin
      cases its with
      | nil =>
        cases r1
        simp only [PyData.shownAll, listText_nil] at fin
        exact call_list_repr_empty ⟨o, ho, hc⟩ ho hdt (fin s.heap _ _ fun _ _ e => e)
      | cons y ys =>
        exact call_list_reprK ho hc hdt off (by simpa using k.length_eq) (fun i z e => k.item i z (by simpa using e)) hg (fun b _ => Clear.nil b) (by show X.A.units + 1 + _ < cLine; omega) (fun _ _ e => e) (fun h' u tk k => fin h' u tk k) fits
  | tuple ds =>
    obtain ⟨u, rfl, rx⟩ := vals1 r
    cases hd with
    | tup e t =>
      cases rx
      obtain ⟨its, rv, ⟨o, ho, hc, n, hdt⟩, _⟩ := I.tuple e
      have fits : (tupleText (PyData.shownAll ds)).length ≤ sizeLine := by simpa only [PyData.shown] using hlen
      obtain ⟨as, bs, r1, p, k⟩ := DqAll.shows I ds _ its t rv (by simpa [PyData.showable] using hs) fun y hy => Nat.le_trans (tupleText_mem_le hy) fits
      have rd := Reads.tuple ho hc hdt r1
      have off := not_mem_of_deeper rd (by simp only [PyData.depth]; omega) p
      simp only [PyData.depth] at hdep
      refine call_repr_slot (by omega) ⟨o, ho, hc⟩ F.slot_tuple_repr ?_
      have fin : ∀ (h' : Heap) (u : Tok) (tk : Nat), (∀ b o, s.heap.get? b = some o → h'.get? b = some o) → ∃ x t, Value.str (PyData.tuple ds).shown u = Value.str x t ∧ EP X pins σ Q (Value.str (PyData.tuple ds).shown u) { s with heap := h', toks := tk } := fun h' u tk k => ⟨_, _, rfl, V.str _, H, I.kept k, ⟨_, rfl⟩, q⟩
      simp only [PyData.shown] at fin
      exact call_tuple_reprK ho hc hdt off k hg (fun b _ => Clear.nil b) (by show X.A.units + 1 + _ < cLine; omega) (fun _ _ e => e) (fun h' u tk k => fin h' u tk k) fits
  | dict kvs =>
    cases hd with
    | dct e n1 n2 => exact call_repr0 hg hu pins s σ H [.ref _] us Q I r ⟨_, _, m, l, rfl, .dct e n1 n2, rfl, hs, hdep, hlen, q⟩
  | none => exact call_repr0 hg hu pins s σ H [x] us Q I r ⟨x, _, m, l, rfl, hd, by simp [plainD, PyData.hasDict], hs, hdep, hlen, q⟩
  | bool b => exact call_repr0 hg hu pins s σ H [x] us Q I r ⟨x, _, m, l, rfl, hd, by simp [plainD, PyData.hasDict], hs, hdep, hlen, q⟩
  | int i => exact call_repr0 hg hu pins s σ H [x] us Q I r ⟨x, _, m, l, rfl, hd, by simp [plainD, PyData.hasDict], hs, hdep, hlen, q⟩
  | str y => exact call_repr0 hg hu pins s σ H [x] us Q I r ⟨x, _, m, l, rfl, hd, by simp [plainD, PyData.hasDict], hs, hdep, hlen, q⟩
end Ms
namespace Ms
open PySem PySem.Spec PyProof.Rows L2
/-! ### data of bounded size -/
mutual
/-- ints within B, signs that are code points, dicts that are empty -/
def okD (B : Nat) : PyData → Bool
  | .none | .bool _ => true
  | .int i => decide (i.natAbs ≤ B)
  | .str x => x.cps.toList.all fun c => decide (c < 0x110000)
  | .list xs | .tuple xs => okAll B xs
  | .dict kvs => kvs.isEmpty
def okAll (B : Nat) : List PyData → Bool
  | [] => true
  | x :: xs => okD B x && okAll B xs
end
theorem okAll_iff {B : Nat} : ∀ {xs : List PyData}, okAll B xs = true ↔ ∀ x ∈ xs, okD B x = true
  | [] => by simp [okAll]
  | x :: xs => by simp [okAll, okAll_iff (xs := xs)]
mutual
theorem okD_mono {B C : Nat} (h : B ≤ C) : ∀ d : PyData, okD B d = true → okD C d = true
  | .none, _ => rfl
  | .bool _, _ => rfl
  | .int i, e => by simp only [okD, decide_eq_true_eq] at e ⊢; omega
  | .str x, e => by simpa only [okD] using e
  | .list xs, e => by simp only [okD] at e ⊢; exact okAll_mono h xs e
  | .tuple xs, e => by simp only [okD] at e ⊢; exact okAll_mono h xs e
  | .dict kvs, e => by simpa only [okD] using e
theorem okAll_mono {B C : Nat} (h : B ≤ C) : ∀ xs : List PyData, okAll B xs = true → okAll C xs = true
  | [], _ => rfl
  | x :: xs, e => by
    simp only [okAll, Bool.and_eq_true] at e ⊢
    exact ⟨okD_mono h x e.1, okAll_mono h xs e.2⟩
end
theorem log_small {i : Int} (h : i.natAbs ≤ 10 ^ 31) : i.natAbs.log2 < 1920 := by
  by_cases z : i.natAbs = 0
  · rw [z]; decide
  · have h1 : i.natAbs < 2 ^ 103 := by
      have e : (10 : Nat) ^ 31 < 2 ^ 103 := by decide
      omega
    have := (Nat.log2_lt z).mpr h1
    omega
theorem int_short {i : Int} (h : i.natAbs ≤ 10 ^ 31) : (PyData.shown (.int i)).length ≤ 64 := by
  have e := int_text_length_le10 (k := 32) (by decide) (show i.natAbs < 10 ^ 32 by
    have z : (10 : Nat) ^ 31 < 10 ^ 32 := by decide
    omega)
  show (Str.ofString (toString i)).length ≤ 64
  rw [PySem.ofString_length]
  omega
mutual
theorem ok_shows : ∀ d : PyData, okD (10 ^ 31) d = true → d.showable = true ∧ d.leavesShort 64 = true
  | .none, _ => ⟨rfl, rfl⟩
  | .bool _, _ => ⟨rfl, rfl⟩
  | .int i, e => by
    simp only [okD, decide_eq_true_eq] at e
    simp only [PyData.showable, PyData.leavesShort, decide_eq_true_eq]
    exact ⟨log_small e, int_short e⟩
  | .str x, e => by
    simp only [okD, List.all_eq_true, decide_eq_true_eq] at e
    refine ⟨rfl, ?_⟩
    simp only [PyData.leavesShort, List.all_eq_true, decide_eq_true_eq]
    intro c hc
    have := e c hc
    have z : (0x110000 : Nat) < 16 ^ 8 := by decide
    omega
  | .list xs, e => by
    simp only [okD] at e
    simp only [PyData.showable, PyData.leavesShort]
    exact okAll_shows xs e
  | .tuple xs, e => by
    simp only [okD] at e
    simp only [PyData.showable, PyData.leavesShort]
    exact okAll_shows xs e
  | .dict [], _ => ⟨rfl, rfl⟩
  | .dict (a :: b), e => by simp [okD] at e
theorem okAll_shows : ∀ xs : List PyData, okAll (10 ^ 31) xs = true → PyData.showableAll xs = true ∧ PyData.leavesShortAll 64 xs = true
  | [], _ => ⟨rfl, rfl⟩
  | x :: xs, e => by
    simp only [okAll, Bool.and_eq_true] at e
    obtain ⟨h1, h2⟩ := ok_shows x e.1
    obtain ⟨h3, h4⟩ := okAll_shows xs e.2
    simp only [PyData.showableAll, PyData.leavesShortAll, h1, h2, h3, h4, Bool.and_self, and_self]
end
/-- data within B, of weight at most a, of depth at most b -/
structure Gd (B a b : Nat) (d : PyData) : Prop where
  ok : okD B d = true
  wt : d.weight ≤ a
  dp : d.depth ≤ b
theorem Gd.mono {B a b B' a' b' : Nat} {d : PyData} (g : Gd B a b d) (h1 : B ≤ B') (h2 : a ≤ a') (h3 : b ≤ b') : Gd B' a' b' d := ⟨okD_mono h1 d g.ok, Nat.le_trans g.wt h2, Nat.le_trans g.dp h3⟩
theorem Gd.shown {a b : Nat} {d : PyData} (g : Gd (10 ^ 31) a b d) (ha : a ≤ 200000) : d.showable = true ∧ d.shown.length ≤ sizeLine := by
  obtain ⟨h1, h2⟩ := ok_shows d g.ok
  refine ⟨h1, ?_⟩
  have h := PyData.shown_le 64 (by decide) d h2
  have w := g.wt
  rw [sizeLine_eq]
  omega
end Ms
namespace Ms
open PySem PySem.Spec PyProof.Rows L2
/-! ### the machine of draws: a dict with the cells, what is left of the great ones, and a count -/
def kvM (c l : Addr) (n : Int) : List (Key × V) := [(.inr "cells", .ref c), (.inr "left", .ref l), (.inr "at", .int n)]
structure Mch (H : Hp) (m l : Addr) (n : Nat) : Prop where
  ex : ∃ (c : Addr) (cs ls : List Int) (z : Int), H m = some (.dK (kvM c l z)) ∧ H c = some (.lst (cs.map V.int)) ∧ H l = some (.lst (ls.map V.int)) ∧ c ≠ l ∧ 0 ≤ z ∧ z ≤ (n : Int) ∧ cs.length ≤ 63 ∧ ls.length ≤ 63
/-- behind a step: all but the machine's own dict and list stand as before -/
structure Fr (m l l' : Addr) (H H' : Hp) : Prop where
  keep : ∀ b o, H b = some o → b ≠ m → b ≠ l → H' b = some o
  new : l' = l ∨ H l' = none
  dom : ∀ b, H b ≠ none → H' b ≠ none
theorem Mch.mm {H : Hp} {m l : Addr} {n : Nat} (M : Mch H m l n) : H m ≠ none := by
  obtain ⟨c, cs, ls, z, h, _⟩ := M.ex
  rw [h]; exact fun z => nomatch z
theorem Fr.refl {m l : Addr} {H : Hp} {n : Nat} (M : Mch H m l n) : Fr m l l H H := ⟨fun _ _ e _ _ => e, .inl rfl, fun _ h => h⟩
theorem upd_dom {H : Hp} {p b : Addr} {o : HO} (h : H b ≠ none) : (upd H p o) b ≠ none := by
  by_cases e : b = p
  · rw [e, upd_same]; exact fun z => nomatch z
  · rw [upd_ne e]; exact h
theorem Fr.free {m l l' p : Addr} {H H' : Hp} (f : Fr m l l' H H') (hp : H' p = none) : H p = none := by
  cases q : H p with
  | none => rfl
  | some o => exact absurd hp (f.dom p (by rw [q]; exact fun z => nomatch z))
theorem Fr.trans {m l l' l'' : Addr} {H H' H'' : Hp} (f : Fr m l l' H H') (g : Fr m l' l'' H' H'') : Fr m l l'' H H'' := by
  have hl : ∀ b o, H b = some o → b ≠ m → b ≠ l → b ≠ l' := fun b o e hm hl => by
    rcases f.new with z | z
    · rw [z]; exact hl
    · exact ne_of_none e z
  refine ⟨fun b o e hm hb => g.keep b o (f.keep b o e hm hb) hm (hl b o e hm hb), ?_, fun b h => g.dom b (f.dom b h)⟩
  rcases g.new with z | z
  · rw [z]; exact f.new
  · exact .inr (f.free z)
theorem Mch.mono {H : Hp} {m l : Addr} {n k : Nat} (M : Mch H m l n) (h : n ≤ k) : Mch H m l k := by
  obtain ⟨c, cs, ls, z, h1, h2, h3, h4, h5, h6, h7⟩ := M.ex
  exact ⟨c, cs, ls, z, h1, h2, h3, h4, h5, by omega, h7⟩
def spBegun (K : PySem.W.Frag) : Sp := fun vs H Q _ => ∃ (a : Addr) (ns : List Int), vs = [.ref a] ∧ SqL K H a (ns.map V.int) ∧ ns.length ≤ 63 ∧
  ∀ (m l : Addr) (H' : Hp), H m = none → H l = none → Same H H' → Mch H' m l 0 → Q (.ref m) H'
structure Txt (mg : Str → Option Value) : Prop where
  list : mg "list" = none
  len : mg "len" = none
  int : mg "int" = none
section
variable {P : Program} {w : World} {K : PySem.W.Frag} {mg : Str → Option Value} {base : Heap}
/-! ### _law_next -/
structure MS (H : Hp) (m c l : Addr) (cs ls : List Int) (z : Int) : Prop where
  dm : H m = some (.dK (kvM c l z))
  dc : H c = some (.lst (cs.map V.int))
  dl : H l = some (.lst (ls.map V.int))
  ne : c ≠ l
theorem MS.junk {H : Hp} {m c l p : Addr} {cs ls : List Int} {z : Int} {o : HO} (S : MS H m c l cs ls z) (hp : H p = none) : MS (upd H p o) m c l cs ls z :=
  ⟨by rw [upd_ne (ne_of_none S.dm hp)]; exact S.dm, by rw [upd_ne (ne_of_none S.dc hp)]; exact S.dc, by rw [upd_ne (ne_of_none S.dl hp)]; exact S.dl, S.ne⟩
theorem Fr.junk {m l l' p : Addr} {H H' : Hp} {o : HO} (f : Fr m l l' H H') (hp : H' p = none) : Fr m l l' H (upd H' p o) := by
  refine ⟨fun b o e h1 h2 => ?_, f.new, fun b h => upd_dom (f.dom b h)⟩
  have q := f.keep b o e h1 h2
  rw [upd_ne (ne_of_none q hp)]; exact q
theorem MS.left {H : Hp} {m c l : Addr} {cs ls : List Int} {z : Int} (S : MS H m c l cs ls z) : DGet H m (.str "left") (some (.ref l)) := by
  have e : valV (kvM c l z) (.inr "left" : Key) = some (.ref l) := by unfold valV kvM; rfl
  rw [← e]; exact DGet.k (k := Sum.inr "left") S.dm
theorem MS.cells {H : Hp} {m c l : Addr} {cs ls : List Int} {z : Int} (S : MS H m c l cs ls z) : DGet H m (.str "cells") (some (.ref c)) := by
  have e : valV (kvM c l z) (.inr "cells" : Key) = some (.ref c) := by unfold valV kvM; rfl
  rw [← e]; exact DGet.k (k := Sum.inr "cells") S.dm
theorem MS.at {H : Hp} {m c l : Addr} {cs ls : List Int} {z : Int} (S : MS H m c l cs ls z) : DGet H m (.str "at") (some (.int z)) := by
  have e : valV (kvM c l z) (.inr "at" : Key) = some (.int z) := by unfold valV kvM; rfl
  rw [← e]; exact DGet.k (k := Sum.inr "at") S.dm
theorem put_left (c l l' : Addr) (z : Int) : putK (kvM c l z) (.inr "left" : Key) (.ref l') = kvM c l' z := by unfold putK kvM; rfl
theorem put_at (c l : Addr) (z z' : Int) : putK (kvM c l z) (.inr "at" : Key) (.int z') = kvM c l z' := by unfold putK kvM; rfl
theorem dpAll_ints {K : PySem.W.Frag} {H : Hp} : ∀ ns : List Int, DpAll K H (ns.map V.int) (ns.map PyData.int)
  | [] => .nil
  | n :: ns => .cons (.int n) (dpAll_ints ns)
theorem lay_ints : ∀ ns : List Int, PyData.canLayAll0 (ns.map PyData.int) = true
  | [] => rfl
  | n :: ns => by
    show (PyData.canLay0 (.int n) && PyData.canLayAll0 (ns.map PyData.int)) = true
    rw [lay_ints ns]; rfl
theorem depth_ints : ∀ ns : List Int, PyData.depthAll (ns.map PyData.int) = 0
  | [] => rfl
  | n :: ns => by
    show max (PyData.depth (.int n)) (PyData.depthAll (ns.map PyData.int)) = 0
    rw [depth_ints ns]; rfl
theorem shaped_ints (ns : List Int) : SeqAt.shaped (.list (ns.map PyData.int)) = true := by
  show (PyData.canLayAll0 (ns.map PyData.int) && decide (PyData.depthAll (ns.map PyData.int) + 1 ≤ 64)) = true
  rw [lay_ints, depth_ints]; rfl
theorem ifF {c : Bool} {A B : Prop} (hc : c = false) (h : B) : if c = true then A else B := by rw [hc, if_neg Bool.false_ne_true]; exact h
theorem ifT {c : Bool} {A B : Prop} (hc : c = true) (h : A) : if c = true then A else B := by rw [if_pos hc]; exact h
theorem cut1 (y : Int) (ys : List Int) : cutV ((y :: ys).map V.int) (some 1) none = ys.map V.int := by
  unfold cutV
  have e1 : HT.sIx ((y :: ys).map V.int).length 0 (some (1 : Int)) = 1 := by
    show HT.sIx _ 0 (some ((1 : Nat) : Int)) = 1
    rw [HT.sIx_nat]
    simp
  have e2 : HT.sIx ((y :: ys).map V.int).length ((y :: ys).map V.int).length none = (y :: ys).length := by
    show ((y :: ys).map V.int).length = _
    rw [List.length_map]
  rw [e1, e2]
  simp only [List.map_cons, List.drop_succ_cons, List.drop_zero, List.length_cons, Nat.add_sub_cancel]
  exact List.take_of_length_le (by simp)
theorem MS.fresh {H : Hp} {m c l p : Addr} {cs ls : List Int} {z : Int} (S : MS H m c l cs ls z) (hp : H p = none) : p ≠ m ∧ p ≠ c ∧ p ≠ l :=
  ⟨(fun e => by rw [e, S.dm] at hp; cases hp), (fun e => by rw [e, S.dc] at hp; cases hp), (fun e => by rw [e, S.dl] at hp; cases hp)⟩
theorem MS.mc {H : Hp} {m c l : Addr} {cs ls : List Int} {z : Int} (S : MS H m c l cs ls z) : m ≠ c := ne_of S.dm S.dc (by intro q; cases q)
theorem MS.ml {H : Hp} {m c l : Addr} {cs ls : List Int} {z : Int} (S : MS H m c l cs ls z) : m ≠ l := ne_of S.dm S.dl (by intro q; cases q)
/-- a new list is put as what is left -/
theorem MS.putL {H : Hp} {m c l p : Addr} {cs ls ls' : List Int} {z : Int} (S : MS H m c l cs ls z) (hp : H p = none) :
    MS (upd (upd H p (.lst (ls'.map V.int))) m (.dK (putK (kvM c l z) (.inr "left" : Key) (.ref p)))) m c p cs ls' z := by
  obtain ⟨n1, n2, n3⟩ := S.fresh hp
  refine ⟨by rw [upd_same, put_left], ?_, ?_, n2.symm⟩
  · rw [upd_ne S.mc.symm, upd_ne n2.symm]; exact S.dc
  · rw [upd_ne n1, upd_same]
theorem Fr.putM {m l l' p : Addr} {H H' : Hp} {o o' : HO} (f : Fr m l l' H H') (hp : H' p = none) : Fr m l p H (upd (upd H' p o) m o') := by
  refine ⟨fun b o e h1 h2 => ?_, .inr (f.free hp), fun b h => upd_dom (upd_dom (f.dom b h))⟩
  have q := f.keep b o e h1 h2
  rw [upd_ne h1, upd_ne (ne_of_none q hp)]; exact q
theorem MS.putA {H : Hp} {m c l : Addr} {cs ls : List Int} {z z' : Int} (S : MS H m c l cs ls z) :
    MS (upd H m (.dK (putK (kvM c l z) (.inr "at" : Key) (.int z')))) m c l cs ls z' :=
  ⟨by rw [upd_same, put_at], by rw [upd_ne S.mc.symm]; exact S.dc, by rw [upd_ne S.ml.symm]; exact S.dl, S.ne⟩
theorem Fr.putA {m l l' : Addr} {H H' : Hp} {o : HO} (f : Fr m l l' H H') : Fr m l l' H (upd H' m o) :=
  ⟨fun b o e h1 h2 => by rw [upd_ne h1]; exact f.keep b o e h1 h2, f.new, fun b h => upd_dom (f.dom b h)⟩
theorem MS.setL {H : Hp} {m c l : Addr} {cs ls ls' : List Int} {z : Int} (S : MS H m c l cs ls z) : MS (upd H l (.lst (ls'.map V.int))) m c l cs ls' z :=
  ⟨by rw [upd_ne S.ml]; exact S.dm, by rw [upd_ne S.ne]; exact S.dc, upd_same, S.ne⟩
theorem Fr.setL {m l l' : Addr} {H H' : Hp} {o : HO} (f : Fr m l l' H H') : Fr m l l' H (upd H' l' o) := by
  refine ⟨fun b o e h1 h2 => ?_, f.new, fun b h => upd_dom (f.dom b h)⟩
  have nb : b ≠ l' := by
    rcases f.new with q | q
    · rw [q]; exact h2
    · exact ne_of_none e q
  rw [upd_ne nb]; exact f.keep b o e h1 h2
theorem MS.mch {H : Hp} {m c l : Addr} {cs ls : List Int} {z : Int} {n : Nat} (S : MS H m c l cs ls z) (h1 : 0 ≤ z) (h2 : z ≤ (n : Int)) (h3 : cs.length ≤ 63) (h4 : ls.length ≤ 63) : Mch H m l n :=
  ⟨c, cs, ls, z, S.dm, S.dc, S.dl, S.ne, h1, h2, h3, h4⟩
def spNext : Sp := fun vs H Q _ => ∃ (m l : Addr) (n : Nat) (k : Int), vs = [.ref m, .int k] ∧ Mch H m l n ∧ n < 1000000 ∧ 0 < k ∧ k < 1000000 ∧
  ∀ (r : Int) (l' : Addr) (H' : Hp), 0 ≤ r → r < k → Mch H' m l' (n + 1) → Fr m l l' H H' → Q (.int r) H'
end
/-! ### growth of the heap -/
theorem Same.upd {H : Hp} {p : Addr} {o : HO} (h : H p = none) : Same H (upd H p o) := fun b q e => by rw [upd_ne (ne_of_none e h)]; exact e
theorem Mch.same {H H' : Hp} {m l : Addr} {n : Nat} (s : Same H H') (M : Mch H m l n) : Mch H' m l n := by
  obtain ⟨c, cs, ls, z, h1, h2, h3, h⟩ := M.ex
  exact ⟨c, cs, ls, z, s _ _ h1, s _ _ h2, s _ _ h3, h⟩
theorem Mch.kept {H H' : Hp} {m l : Addr} {n : Nat} (M : Mch H m l n) (s : Same H H') : Kept m l l H H' := by
  obtain ⟨c, cs, ls, z, h1, h2, h3, h⟩ := M.ex
  exact ⟨fun b o e _ _ => s b o e, fun _ _ _ h => h, ⟨_, h1⟩, ⟨_, h3⟩⟩
theorem Mch.step {H H' : Hp} {m l l' : Addr} {n : Nat} (M : Mch H m l n) (f : Fr m l l' H H') : Kept m l l' H H' := by
  obtain ⟨c, cs, ls, z, h1, h2, h3, h⟩ := M.ex
  refine ⟨f.keep, fun b o e hb => ?_, ⟨_, h1⟩, ⟨_, h3⟩⟩
  rcases f.new with q | q
  · rw [q]; exact hb
  · exact ne_of_none e q
theorem Mch.ne {H : Hp} {m l p : Addr} {n : Nat} (M : Mch H m l n) (h : H p = none) : p ≠ m ∧ p ≠ l := by
  obtain ⟨c, cs, ls, z, h1, h2, h3, _⟩ := M.ex
  exact ⟨(fun e => by rw [e, h1] at h; cases h), (fun e => by rw [e, h3] at h; cases h)⟩
/-- a fresh list, and one behind it -/
theorem Fr.lead {H0 H H' : Hp} {m l l' : Addr} (s : Same H0 H) (f : Fr m l l' H H') : Fr m l l' H0 H' := by
  have d : ∀ b, H0 b ≠ none → H b ≠ none := fun b h => by
    cases q : H0 b with
    | none => exact absurd q h
    | some o => rw [s b o q]; exact fun z => nomatch z
  refine ⟨fun b o e h1 h2 => f.keep b o (s b o e) h1 h2, ?_, fun b h => f.dom b (d b h)⟩
  rcases f.new with q | q
  · exact .inl q
  · exact .inr (Same.free s q)
theorem DqAll.get {K : PySem.W.Frag} {H : Hp} {m l : Addr} : ∀ {ds : List PyData} {vs : List V} {i : Nat} {v : V}, DqAll K H m l vs ds → vs[i]? = some v → ∃ d, ds[i]? = some d ∧ Dq K H m l v d
  | [], _, i, v, h, e => by cases h; simp at e
  | d :: ds, _, 0, v, h, e => by
    cases h with
    | cons h1 h2 => simp at e; subst e; exact ⟨d, rfl, h1⟩
  | d :: ds, _, i + 1, v, h, e => by
    cases h with
    | cons h1 h2 => exact DqAll.get (i := i) h2 (by simpa using e)
end Ms
namespace Ms
open PySem PySem.Spec PyProof.Rows L2
def top (i : Nat) : Stmt := PySem.Challenge.pw_midswitch_k03_whole_books_made.main.body.getD i (.Pass ⟨0, 0, 0, 0⟩)
abbrev sIni : Stmt := inClass (top 3) 0
abbrev sIniSt : Stmt := inClass (top 4) 0
abbrev sIniSw : Stmt := inClass (top 5) 0
abbrev sGroups : Stmt := top 7
abbrev sReached : Stmt := top 8
abbrev sLater : Stmt := top 9
abbrev sPInt : Stmt := top 15
abbrev sPName : Stmt := top 16
abbrev sPSet : Stmt := top 17
abbrev sNeed : Stmt := top 18
abbrev sPNames : Stmt := top 19
abbrev sPGrid : Stmt := top 20
abbrev sPStand : Stmt := top 21
abbrev sBookIni : Stmt := inClass (top 23) 0
abbrev sNear : Stmt := top 24
abbrev sNearTo : Stmt := top 25
abbrev sMoved : Stmt := top 26
abbrev sNStarts : Stmt := top 27
abbrev sNSwitches : Stmt := top 28
abbrev sPSwitch : Stmt := top 29
abbrev sFirstW : Stmt := top 30
abbrev sBegun : Stmt := top 32
abbrev sNext : Stmt := top 33
abbrev sNames : Stmt := top 34
abbrev sSettings : Stmt := top 35
abbrev sOdd : Stmt := top 36
abbrev sBent : Stmt := top 37
abbrev sStandings : Stmt := top 38
abbrev sPicked : Stmt := top 39
abbrev sLNear : Stmt := top 40
abbrev sLPairs : Stmt := top 41
abbrev sLBook : Stmt := top 42
abbrev sFault : Stmt := top 43
abbrev sDue : Stmt := top 44
abbrev sTold : Stmt := top 45
abbrev sLaw : Stmt := top 46
abbrev sBookLen : Stmt := inClass (top 23) 1
abbrev sBookIn : Stmt := inClass (top 23) 2
abbrev sBookEq : Stmt := inClass (top 23) 3
abbrev sBookAnd : Stmt := inClass (top 23) 4
abbrev sBookAfter : Stmt := inClass (top 23) 5
abbrev sBookStart : Stmt := inClass (top 23) 6
end Ms
namespace Ms
open PySem PySem.Spec PyProof.Rows L2
section
variable {P : Program} {w : World} {K : PySem.W.Frag} {mg : Str → Option Value} {base : Heap}
theorem scB : FnScope ["script", "cell"] ["script"] (defScope sBegun) := ⟨rfl, rfl, rfl, by decide +kernel, rfl, by decide +kernel, by decide +kernel⟩
theorem ok_begun {f : Addr} {fd : FuncData} (F : Fun K "_law_begun" "_law_begun" sBegun f fd) (T : Txt mg) : FnOk P w K mg base CX0 1 f fd ["script"] (spBegun K) := by
  refine F.ok scB (fun vs H Q E h => ?_) (fun cdv A outer s H vs Q E hr h => ?_)
  · obtain ⟨a, ns, rfl, _⟩ := h
    rfl
  · obtain ⟨a, ns, rfl, hS, hlen, k⟩ := h
    have hu := hu_of hr
    refine ⟨_, pss_one (ps_ret (pe_disp (pps_cons pe_str (pe_callTy call_list_of (by rfl) T.list (by decide +kernel) (pa_cons (pv 0) pa_nil))
      (pps_cons pe_str (pe_lc (own := [("cell", 1)]) (g := gName 1) (by rfl) scB.nd (pi_list (pv 0)) (blkOk_by (own := [("cell", 1)]) (N := ["script", "cell"]) (sc := defScope sBegun) (by decide +kernel))
        (fun _ _ _ _ _ => pg_name (i := 1) scB.nd rfl (Or.inl rfl)) (fun _ _ _ _ _ => pts_one (pt_cmpR op_ge (pv 1) (pe_op op_pow pe_int pe_int) (nomark _))) (fun _ _ _ _ _ => pv 1))
      (pps_cons pe_str pe_int pps_nil))) (by rfl) (by rfl) (fun z => by cases z) (by decide))), ?_⟩
    intro m hm
    have s0 : Same H (upd H m (.dK [])) := fun b o e => by rw [upd_ne (ne_of_none e hm)]; exact e
    refine ⟨_, rfl, a, _, rfl, .inl (s0.seq hS), fun c hc => ?_⟩
    have ncm : c ≠ m := fun z => by rw [z, upd_same] at hc; cases hc
    have hc0 : H c = none := by rw [upd_ne ncm] at hc; exact hc
    have s1 : Same H (upd (upd H m (.dK [])) c (.lst (ns.map V.int))) := fun b o e => by rw [upd_ne (ne_of_none e hc0)]; exact s0 b o e
    refine ⟨_, rfl, a, rfl, ⟨_, s1.seq hS⟩, fun l hl => ?_⟩
    have nlc : l ≠ c := fun z => by rw [z, upd_same] at hl; cases hl
    have hl1 : (upd H m (.dK [])) l = none := by rw [upd_ne nlc] at hl; exact hl
    have nlm : l ≠ m := fun z => by rw [z, upd_same] at hl1; cases hl1
    have hl0 : H l = none := by rw [upd_ne nlm] at hl1; exact hl1
    refine lc_list (K := K) (a := a) (xs := ns.map V.int) (fun i H2 => ∃ ls : List Int, ls.length ≤ i ∧ H2 = upd (upd (upd H m (.dK [])) c (.lst (ns.map V.int))) l (.lst (ls.map V.int))) ⟨[], Nat.le_refl _, rfl⟩ (fun i H2 _ ⟨ls, _, e⟩ => ?_) ?_ ?_
    · have s2 : Same H H2 := fun b o q => by rw [e, upd_ne (ne_of_none q hl0)]; exact s1 b o q
      exact s2.seq hS
    · rintro i x H2 hi ⟨ls, hls, e⟩
      obtain ⟨z, rfl⟩ : ∃ z, x = V.int z := by
        rw [List.getElem?_map] at hi
        cases q : ns[i]? with
        | none => rw [q] at hi; cases hi
        | some z => rw [q] at hi; exact ⟨z, (Option.some.inj hi).symm⟩
      have hil : i < ns.length := by
        have q := (List.getElem?_eq_some_iff.mp hi).1
        rw [List.length_map] at q
        exact q
      refine ⟨rfl, _, rfl, _, _, rfl, rfl, ⟨by decide, by decide, by decide⟩, _, _, rfl, rfl, _, rfl, ?_⟩
      refine ite2 (fun _ => ?_) (fun _ => ?_)
      · refine ⟨_, rfl, ls.map V.int, by rw [e]; exact upd_same, small1000 (by rw [List.length_map]; omega), ls ++ [z], ?_, ?_⟩
        · rw [List.length_append, List.length_singleton]; omega
        · rw [e, upd_upd, List.map_append]; rfl
      · exact ⟨ls, by omega, e⟩
    · rintro H2 ⟨ls, hls, e⟩
      rw [List.length_map] at hls
      refine ⟨?_, [(.inr "cells", .ref c), (.inr "left", .ref l), (.inr "at", .int 0)], rfl, (by show 3 ≤ 15; decide), ?_⟩
      · rw [e, upd_ne nlm.symm, upd_ne ncm.symm, upd_same]
      · refine k m l _ hm hl0 (fun b o q => ?_) ⟨c, ns, ls, 0, ?_, ?_, ?_, nlc.symm, Int.le_refl _, Int.le_refl _, hlen, by omega⟩
        · rw [upd_ne (ne_of_none q hm), e, upd_ne (ne_of_none q hl0)]; exact s1 b o q
        · rw [upd_same]; rfl
        · rw [upd_ne ncm, e, upd_ne nlc.symm, upd_same]
        · rw [upd_ne nlm, e, upd_same]

theorem scN : FnScope ["m", "many", "rest", "at", "lot", "cell", "blend"] ["m", "many"] (defScope sNext) := ⟨rfl, rfl, rfl, by decide +kernel, rfl, by decide +kernel, by decide +kernel⟩
set_option maxHeartbeats 4000000 in
theorem ok_next {f : Addr} {fd : FuncData} (F : Fun K "_law_next" "_law_next" sNext f fd) (T : Txt mg) : FnOk P w K mg base CX0 1 f fd ["m", "many"] spNext := by
  refine F.ok scN (fun vs H Q E h => ?_) (fun cdv A outer s H vs Q E hr h => ?_)
  · obtain ⟨m, l, n, k, rfl, _⟩ := h
    rfl
  · obtain ⟨m, l, n, k, rfl, M, hn, hk, hk2, q⟩ := h
    have hu := hu_of hr
    refine ⟨_, pss_cons (ps_while PassesOwn.never (PW.pt (pw_and (pt_cmpR (op_neD hr.units) (pe_dget hu (pv 0) pe_str (fun _ _ => rfl)) (pe_lst pa_nil) (nomark _))
          (pw_and1 (pt_cmpR op_eq (pe_ix ix_list (pe_dget hu (pv 0) pe_str (fun _ _ => rfl)) pe_int (fun _ _ => rfl)) pe_int (nomark _)))))
        (pss_one (ps_dput hu (pv 0) pe_str (pe_slice sl_list (pe_dget hu (pv 0) pe_str (fun _ _ => rfl)) (po_some pe_int) po_none) rfl)))
      (pss_cons (ps_if (pt_cmpR (op_neD hr.units) (pe_dget hu (pv 0) pe_str (fun _ _ => rfl)) (pe_lst pa_nil) (nomark _))
        (pss_cons (ps_set (i := 2) scN.nd rfl (Or.inl rfl) (pe_ix ix_list (pe_dget hu (pv 0) pe_str (fun _ _ => rfl)) pe_int (fun _ _ => rfl)))
          (pss_cons (ps_asg (pe_op op_fdiv (pv 2) (pv 1)) (pg_sub (pe_dget hu (pv 0) pe_str (fun _ _ => rfl)) pe_int set_list))
          (pss_one (ps_ret (pe_op op_mod (pe_callTy call_int1 (by rfl) T.int (by decide +kernel) (pa_cons (pv 2) pa_nil)) (pv 1))))))
        pss_nil)
      (pss_cons (ps_par (i := 3) (j := 4) (by rfl) scN.nd rfl rfl (by decide) rfl rfl (pa_cons (pe_op op_add (pe_dget hu (pv 0) pe_str (fun _ _ => rfl)) pe_int) (pa_cons (pe_dget hu (pv 0) pe_str (fun _ _ => rfl)) pa_nil)) (by rfl))
      (pss_cons (ps_dput hu (pv 0) pe_str (pv 3) rfl)
      (pss_cons (ps_set (i := 5) scN.nd rfl (Or.inl rfl) (pe_ifExp (pt_cmpR (op_neD hr.units) (pv 4) (pe_lst pa_nil) (nomark _))
        (pe_callTy call_int1 (by rfl) T.int (by decide +kernel) (pa_cons (pe_ix ix_list (pv 4) (pe_op op_mod (pe_callTy call_int1 (by rfl) T.int (by decide +kernel) (pa_cons (pe_op op_add (pe_op op_mul (pv 3) (pv 3)) (pe_op op_fdiv (pv 3) pe_int)) pa_nil))
          (pe_callB call_len_seq (by rfl) T.len PySem.boot_len (pa_cons (pv 4) pa_nil))) (fun _ _ => rfl)) pa_nil)) pe_int))
      (pss_cons (ps_set (i := 6) scN.nd rfl (Or.inl rfl) (pe_op op_mod (pe_callTy call_int1 (by rfl) T.int (by decide +kernel) (pa_cons (pe_op op_add (pe_op op_add (pe_op op_mul (pv 5) pe_int) (pe_op op_mul (pv 3) pe_int)) (pe_op op_mul (pe_op op_mul pe_int (pv 3)) (pv 3))) pa_nil)) pe_int))
      (pss_one (ps_ret (pe_op op_mod (pe_callTy call_int1 (by rfl) T.int (by decide +kernel) (pa_cons (pe_op op_fdiv (pe_op op_mod (pe_callTy call_int1 (by rfl) T.int (by decide +kernel) (pa_cons (pe_op op_add (pe_op op_mul (pv 6) pe_int) (pe_op op_mul pe_int (pv 3))) pa_nil)) pe_int) pe_int) pa_nil)) (pv 1))))))))), ?_⟩
    obtain ⟨c, cs, ls, z, h1, h2, h3, h4, h5, h6, h7, h8⟩ := M.ex
    refine (show ∀ D : Ends, (∀ l2 ls2 H3, H3 l ≠ none → ls2.length ≤ 63 → MS H3 m c l2 cs ls2 z → Fr m l l2 H H3 → D.nx [some (.ref m), some (.int k), none, none, none, none, none] H3) → tWhile _ _ D _ _ from ?_) _ ?_
    · intro D rest
      refine ⟨fun N σ H2 => σ = [some (.ref m), some (.int k), none, none, none, none, none] ∧ ∃ l2 ls, ls.length = N ∧ ls.length ≤ 63 ∧ H2 l ≠ none ∧ MS H2 m c l2 cs ls z ∧ Fr m l l2 H H2, ⟨_, rfl, l, ls, rfl, h8, (by rw [h3]; exact fun z => nomatch z), ⟨h1, h2, h3, h4⟩, Fr.refl M⟩, ?_⟩
      rintro N σ H2 ⟨rfl, l2, ls2, rfl, hz, hl2, S, f⟩
      refine ⟨_, rfl, m, .ref l2, rfl, S.left, Nat.zero_le _, fun p hp => ?_⟩
      have S' := S.junk (o := .lst []) hp
      have f' := f.junk (o := .lst []) hp
      have nz : ∀ {H2 : Hp} {p : Addr}, H2 l ≠ none → ∀ o, (upd H2 p o) l ≠ none := fun {H2 p} hl2 o => by
        by_cases e : l = p
        · rw [e, upd_same]; exact fun z => nomatch z
        · rw [upd_ne e]; exact hl2
      refine ⟨.list (ls2.map PyData.int), .list [], .lst (SqL.of S'.dl) (dpAll_ints _), .lst (SqL.of upd_same) .nil, shaped_ints _, rfl, _, rfl, ?_⟩
      cases ls2 with
      | nil =>
        refine ifF rfl ?_
        refine ifF rfl ?_
        exact rest l2 [] _ (nz hl2 _) hz S' f'
      | cons y ys =>
        refine ifT rfl ?_
        refine ⟨_, rfl, m, .ref l2, rfl, S'.left, l2, _, 0, .int y, rfl, rfl, SqL.of S'.dl, atI_nat (j := 0) rfl, rfl, _, rfl, ?_⟩
        refine ite2 (fun _ => ?_) (fun _ => rest l2 (y :: ys) _ (nz hl2 _) hz S' f')
        refine ⟨fun σ' H' => σ' = [some (.ref m), some (.int k), none, none, none, none, none] ∧ ∃ l2, H' l ≠ none ∧ MS H' m c l2 cs ys z ∧ Fr m l l2 H H', (fun σ' H' ⟨e, l3, g1, g2, g3⟩ => ⟨ys.length, by simp, e, l3, ys, rfl, by simp at hz; omega, g1, g2, g3⟩), ?_⟩
        refine ⟨_, rfl, m, .ref l2, rfl, S'.left, ⟨1, rfl, l2, _, rfl, SqL.of S'.dl, fun p2 hp2 => ?_⟩⟩
        rw [cut1]
        refine ⟨_, rfl, m, _, rfl, DPut.k (k := Sum.inr "left") (S'.junk hp2).dm (by show 3 < sizeLine; exact small1000 (by decide)), rfl, p2, nz (nz (nz hl2 _) _) _, S'.putL hp2, f'.putM hp2⟩
    · intro l2 ls2 H3 hl3 hz S f
      refine ⟨_, rfl, m, .ref l2, rfl, S.left, Nat.zero_le _, fun p hp => ?_⟩
      have S' := S.junk (o := .lst []) hp
      have f' := f.junk (o := .lst []) hp
      refine ⟨.list (ls2.map PyData.int), .list [], .lst (SqL.of S'.dl) (dpAll_ints _), .lst (SqL.of upd_same) .nil, shaped_ints _, rfl, _, rfl, ?_⟩
      cases ls2 with
      | cons y ys =>
        refine ifT rfl ?_
        refine ⟨_, rfl, m, .ref l2, rfl, S'.left, l2, _, 0, .int y, rfl, rfl, SqL.of S'.dl, atI_nat (j := 0) rfl, ?_⟩
        refine ⟨_, rfl, _, rfl, _, _, rfl, rfl, ⟨hk, by omega⟩, _, rfl, m, .ref l2, rfl, S'.left, l2, _, 0, 0, rfl, rfl, S'.dl, (by unfold ixN; rw [if_pos (by decide), if_pos (by simp only [List.map_cons, List.length_cons]; omega)]; rfl), ?_⟩
        refine ⟨_, rfl, .inl ⟨_, rfl, _, rfl, _, _, rfl, rfl, hk, ?_⟩⟩
        have S2 := S'.setL (ls' := (y / k) :: ys)
        exact q _ l2 _ (Int.emod_nonneg _ (by omega)) (Int.emod_lt_of_pos _ hk) (S2.mch h5 (by omega) h7 (by simpa using hz)) f'.setL
      | nil =>
        refine ifF rfl ?_
        refine ⟨_, rfl, m, .int z, rfl, S'.at, _, _, rfl, rfl, _, rfl, m, .ref c, rfl, S'.cells, _, _, rfl, ?_⟩
        refine ⟨_, rfl, _, rfl, m, _, rfl, DPut.k (k := Sum.inr "at") S'.dm (by show 3 < sizeLine; exact small1000 (by decide)), ?_⟩
        have S2 := S'.putA (z' := z + 1)
        have f2 := f'.putA (o := (.dK (putK (kvM c l2 z) (.inr "at" : Key) (.int (z + 1)))))
        refine ⟨_, rfl, Nat.zero_le _, fun p2 hp2 => ?_⟩
        have S3 := S2.junk (o := .lst []) hp2
        have f3 := f2.junk (o := .lst []) hp2
        refine ⟨.list (cs.map PyData.int), .list [], .lst (SqL.of S3.dc) (dpAll_ints _), .lst (SqL.of upd_same) .nil, shaped_ints _, rfl, _, rfl, ?_⟩
        cases cs with
        | nil =>
          refine ifF rfl ?_
          refine ⟨_, rfl, _, _, rfl, rfl, .inr ⟨by decide, by decide⟩, _, rfl, _, _, rfl, rfl, .inr ⟨by decide, by decide⟩, _, _, rfl, rfl, _, rfl, _, _, rfl, rfl, .inl ⟨by decide, by decide⟩, _, rfl, _, _, rfl, rfl, .inr ⟨by omega, by omega⟩, _, _, rfl, rfl, .inl ⟨_, rfl, _, _, rfl, rfl, (by show (0 : Int) < 2147483399; decide), ?_⟩⟩
          refine ⟨_, rfl, _, _, rfl, rfl, .inr ⟨by decide, by decide⟩, _, rfl, _, _, rfl, rfl, .inl ⟨by decide, by decide⟩, _, _, rfl, rfl, .inl ⟨_, rfl, _, _, rfl, rfl, (by show (0 : Int) < 2147483647; decide), _, _, rfl, rfl, ⟨by decide, by decide⟩, .inl ⟨_, rfl, _, rfl, _, _, rfl, rfl, hk, ?_⟩⟩⟩
          exact q _ l2 _ (Int.emod_nonneg _ (by omega)) (Int.emod_lt_of_pos _ hk) (S3.mch (by omega) (by omega) h7 (by simp)) f3
        | cons y ys =>
          refine ifT rfl ?_
          refine ⟨_, rfl, _, rfl, _, rfl, _, _, rfl, rfl, .inl ⟨by omega, by omega⟩, _, rfl, _, _, rfl, rfl, ⟨by decide, by decide⟩, _, _, rfl, rfl, .inl ⟨_, rfl, ?_⟩⟩
          have hlen : ((y :: ys).map V.int).length = ys.length + 1 := by rw [List.length_map, List.length_cons]
          refine ⟨_, rfl, c, _, rfl, .inl (SqL.of S3.dc), _, _, rfl, rfl, (by rw [hlen]; omega), ?_⟩
          generalize hg : ((z + 1) * (z + 1) + (z + 1) / 2) % ((((y :: ys).map V.int).length : Nat) : Int) = g
          have g0 : 0 ≤ g := by rw [← hg, hlen]; exact Int.emod_nonneg _ (by omega)
          have g1 : g < ((y :: ys).length : Nat) := by rw [← hg, hlen]; exact Int.emod_lt_of_pos _ (by omega)
          obtain ⟨gn, rfl⟩ : ∃ gn : Nat, g = (gn : Int) := ⟨g.toNat, by omega⟩
          obtain ⟨u, hu2⟩ : ∃ u, (y :: ys)[gn]? = some u := ⟨_, List.getElem?_eq_getElem (by omega)⟩
          refine ⟨c, _, (gn : Int), .int u, rfl, congrArg V.int hg, SqL.of S3.dc, atI_nat (by rw [List.getElem?_map, hu2]; rfl), .inl ⟨_, rfl, ?_⟩⟩
          refine ⟨_, rfl, _, _, rfl, rfl, .inr ⟨by decide, by decide⟩, _, rfl, _, _, rfl, rfl, .inr ⟨by decide, by decide⟩, _, _, rfl, rfl, _, rfl, _, _, rfl, rfl, .inl ⟨by decide, by decide⟩, _, rfl, _, _, rfl, rfl, .inr ⟨by omega, by omega⟩, _, _, rfl, rfl, .inl ⟨_, rfl, _, _, rfl, rfl, (by show (0 : Int) < 2147483399; decide), ?_⟩⟩
          refine ⟨_, rfl, _, _, rfl, rfl, .inr ⟨by decide, by decide⟩, _, rfl, _, _, rfl, rfl, .inl ⟨by decide, by decide⟩, _, _, rfl, rfl, .inl ⟨_, rfl, _, _, rfl, rfl, (by show (0 : Int) < 2147483647; decide), _, _, rfl, rfl, ⟨by decide, by decide⟩, .inl ⟨_, rfl, _, rfl, _, _, rfl, rfl, hk, ?_⟩⟩⟩
          exact q _ l2 _ (Int.emod_nonneg _ (by omega)) (Int.emod_lt_of_pos _ hk) (S3.mch (by omega) (by omega) h7 (by simp)) f3
end
end Ms
namespace Ms
open PySem PySem.Spec PyProof.Rows L2
structure TxtN (mg : Str → Option Value) (fN : Addr) : Prop extends Txt mg where
  next : mg "_law_next" = some (.ref fN)
  range : mg "range" = none
  tuple : mg "tuple" = none
  zip : mg "zip" = none
/-- s * n -/
theorem op_mul_si {X : Cx} : OpR X (binaryOp .Mult) (fun x y H Q => ∃ z i, x = .str z ∧ y = .int i ∧ PySem.MulOk z i ∧ Q (.str (Txt.mul z i)) H) := by
  intro pins s σ H x y v u Q I rx ry h
  obtain ⟨z, i, rfl, rfl, ok, q⟩ := h
  obtain ⟨t, rfl⟩ := rx
  obtain ⟨t', rfl⟩ := ry
  exact PySem.SB.mul ok fun t2 k => ⟨.str _, H, I.tok _, ⟨_, rfl⟩, q⟩
theorem tyes {σ : L2.St} {H : Hp} {R S : Hp → Prop} (h : R H) : tYes σ H (fun b H3 => if b = true then R H3 else S H3) := by
  show if true = true then R H else S H
  rw [if_pos rfl]
  exact h
/-- a list of texts grows by one -/
theorem str_grow {H8 H9 : Hp} {D : Addr} {ys : List Str} {y : Str} (e : H9 = upd H8 D (.lst (ys.map V.str))) : upd H9 D (.lst (ys.map V.str ++ [.str y])) = upd H8 D (.lst ((ys ++ [y]).map V.str)) := by
  rw [e, upd_upd, List.map_append]
  rfl
/-! ### short texts -/
def sOk (a : Nat) (z : Str) : Prop := z.length ≤ a ∧ ∀ c ∈ z.cps.toList, c < 0x110000
theorem sOk.mono {a b : Nat} {z : Str} (h : sOk a z) (k : a ≤ b) : sOk b z := ⟨Nat.le_trans h.1 k, h.2⟩
theorem sOk.app {a b : Nat} {z y : Str} (h : sOk a z) (k : sOk b y) : sOk (a + b) (z ++ y) := by
  refine ⟨by rw [Str.length_append]; exact Nat.add_le_add h.1 k.1, fun c hc => ?_⟩
  have e : (z ++ y).cps.toList = z.cps.toList ++ y.cps.toList := Array.toList_append
  rw [e] at hc
  exact (List.mem_append.mp hc).elim (h.2 c) (k.2 c)
theorem sOk.cut {a : Nat} {z : Str} (h : sOk a z) (lo hi : Option Int) : sOk a (cutS z lo hi) := by
  refine ⟨?_, fun c hc => h.2 c ?_⟩
  · show ((z.cps.toList.drop (HT.sIx z.length 0 lo)).take (HT.sIx z.length z.length hi - HT.sIx z.length 0 lo)).toArray.size ≤ a
    have e : z.cps.toList.length ≤ a := by rw [Array.length_toList]; exact h.1
    rw [List.size_toArray, List.length_take, List.length_drop]
    omega
  · have hc' : c ∈ ((z.cps.toList.drop (HT.sIx z.length 0 lo)).take (HT.sIx z.length z.length hi - HT.sIx z.length 0 lo)) := by simpa [cutS] using hc
    exact List.mem_of_mem_drop (List.mem_of_mem_take hc')
theorem sOk.sign {c : Nat} (h : c < 0x110000) : sOk 1 ⟨#[c]⟩ := ⟨Nat.le_refl _, fun d hd => by simp at hd; rw [hd]; exact h⟩
theorem sOk.okd {a B : Nat} {z : Str} (h : sOk a z) : okD B (.str z) = true := by
  simp only [okD, List.all_eq_true, decide_eq_true_eq]
  exact h.2
abbrev alpha : Str := "abcdefghijklmnopqrstuvwxyz"
theorem alpha_list : alpha.cps.toList = [97, 98, 99, 100, 101, 102, 103, 104, 105, 106, 107, 108, 109, 110, 111, 112, 113, 114, 115, 116, 117, 118, 119, 120, 121, 122] := by decide +kernel
theorem alpha_at {i : Int} (h0 : 0 ≤ i) (h1 : i < 26) : ∃ c, atI alpha.cps.toList i = some c ∧ c < 0x110000 := by
  obtain ⟨j, rfl⟩ : ∃ j : Nat, i = (j : Int) := ⟨i.toNat, by omega⟩
  have hl : alpha.cps.toList.length = 26 := by rw [alpha_list]; rfl
  obtain ⟨c, hc⟩ : ∃ c, alpha.cps.toList[j]? = some c := ⟨_, List.getElem?_eq_getElem (by rw [hl]; omega)⟩
  refine ⟨c, atI_nat hc, ?_⟩
  have z : ∀ d ∈ alpha.cps.toList, d < 0x110000 := by rw [alpha_list]; decide
  exact z c (List.mem_of_getElem? hc)
theorem alpha_len : alpha.length ≤ sizeLine := by decide +kernel
theorem mul8 (c : Nat) : Txt.mul ⟨#[c]⟩ 8 = ⟨#[c, c, c, c, c, c, c, c]⟩ := by rfl
theorem mul8_ok (c : Nat) : PySem.MulOk ⟨#[c]⟩ 8 := ⟨by decide, fun _ _ => by show ¬ ((1 : Nat) : Int) > (2 ^ 63 - 1) / 8; decide, fun _ _ => rfl⟩
section
variable {P : Program} {w : World} {K : PySem.W.Frag} {mg : Str → Option Value} {base : Heap} {fN : Addr}
abbrev NN : List Str := ["m", "many", "letters", "stem", "k", "at", "first", "by", "word"]
theorem scNm : FnScope NN ["m", "many"] (defScope sNames) := ⟨rfl, rfl, rfl, by decide +kernel, rfl, by decide +kernel, by decide +kernel⟩
def spNames : Sp := fun vs H Q _ => ∃ (m l : Addr) (n : Nat) (k : Nat), vs = [.ref m, .int (k : Int)] ∧ Mch H m l n ∧ n < 900000 ∧ 1 ≤ k ∧ k ≤ 8 ∧
  ∀ (p : Addr) (ys : List Str) (l' : Addr) (H' : Hp), H p = none → H' p = some (.lst (ys.map V.str)) → ys.length = k → (∀ y ∈ ys, sOk 16 y) → p ≠ m → p ≠ l' → Mch H' m l' (n + 11) → Fr m l l' H H' → Q (.ref p) H'
theorem ok_names {f : Addr} {fd fdN : FuncData} (F : Fun K "_law_names" "_law_names" sNames f fd) (T : TxtN mg fN) (FN : Fun K "_law_next" "_law_next" sNext fN fdN) (bN : Binds K fdN ["m", "many"] []) : FnOk P w K mg base CX0 2 f fd ["m", "many"] spNames := by
  have GN : FnOk P w K mg base CX0 1 fN fdN ["m", "many"] spNext := ok_next FN T.toTxt
  refine F.ok scNm (fun vs H Q E h => ?_) (fun cdv A outer s H vs Q E hr h => ?_)
  · obtain ⟨m, l, n, k, rfl, _⟩ := h
    rfl
  · obtain ⟨m, l, n, k, rfl, M, hn, hk, hk2, q⟩ := h
    refine ⟨_, pss_cons (ps_asg (pe_tup (pa_cons pe_str (pa_cons pe_str pa_nil))) (pg_tup rfl (pgs_cons (pg_name (i := 2) scNm.nd rfl (Or.inr rfl)) (pgs_cons (pg_name (i := 3) scNm.nd rfl (Or.inr rfl)) pgs_nil))))
      (pss_cons (ps_for PassesOwn.never rfl (pi_range1 (by rfl) T.range (pa_cons (pe_call GN hr rfl T.next FN.kp bN .nil pass0 (pa_cons (pv 0) (pa_cons pe_int pa_nil))) pa_nil)) (pg_name (i := 4) scNm.nd rfl (Or.inl rfl))
        (pss_one (ps_set (i := 3) scNm.nd rfl (Or.inr rfl) (pe_op op_add_str (pv 3) (pe_ix ix_str (pv 2) (pe_call GN hr rfl T.next FN.kp bN .nil pass0 (pa_cons (pv 0) (pa_cons pe_int pa_nil))) (fun _ _ => rfl))))))
      (pss_cons (ps_asg (pe_tup (pa_cons (pe_call GN hr rfl T.next FN.kp bN .nil pass0 (pa_cons (pv 0) (pa_cons (pe_op op_add (pe_callB call_len_str (by rfl) T.len PySem.boot_len (pa_cons (pv 3) pa_nil)) pe_int) pa_nil)))
          (pa_cons (pe_call GN hr rfl T.next FN.kp bN .nil pass0 (pa_cons (pv 0) (pa_cons pe_int pa_nil)))
          (pa_cons (pe_ix ix_list (pe_lst (pa_cons pe_int (pa_cons pe_int (pa_cons pe_int (pa_cons pe_int (pa_cons pe_int (pa_cons pe_int pa_nil))))))) (pe_call GN hr rfl T.next FN.kp bN .nil pass0 (pa_cons (pv 0) (pa_cons pe_int pa_nil))) (fun _ _ => rfl)) pa_nil))))
        (pg_tup rfl (pgs_cons (pg_name (i := 5) scNm.nd rfl (Or.inr rfl)) (pgs_cons (pg_name (i := 6) scNm.nd rfl (Or.inr rfl)) (pgs_cons (pg_name (i := 7) scNm.nd rfl (Or.inr rfl)) pgs_nil)))))
      (pss_cons (ps_set (i := 8) scNm.nd rfl (Or.inr rfl) (pe_slice sl_str (pe_op op_add_str (pv 3) (pe_op op_mul_si (pe_ix ix_str (pv 2) (pv 6) (fun _ _ => rfl)) pe_int)) po_none (po_some pe_int)))
      (pss_cons (ps_if (pt_cmpR op_gt (pv 7) pe_int (nomark _)) (pss_one (ps_ret (pe_lc (own := [("k", 4)]) (g := gName 4) (by rfl) scNm.nd (pi_range1 (by rfl) T.range (pa_cons (pv 1) pa_nil)) (blkOk_by (own := [("k", 4)]) (N := NN) (sc := defScope sNames) (by decide +kernel))
          (fun _ _ _ _ _ => pg_name (i := 4) scNm.nd rfl (Or.inl rfl)) (fun _ _ _ _ _ => pts_nil) (fun _ _ _ _ _ => pe_ifExp (pt_cmpR op_gt (pv 7) pe_int (nomark _)) (pe_slice sl_str (pv 8) (po_some (pv 4)) po_none) (pe_slice sl_str (pv 8) po_none (po_some (pe_op op_sub (pe_op op_add (pv 4) pe_int) (pv 1)))))))) pss_nil)
      (pss_one (ps_ret (pe_lc (own := [("k", 4)]) (g := gName 4) (by rfl) scNm.nd (pi_range1 (by rfl) T.range (pa_cons (pv 1) pa_nil)) (blkOk_by (own := [("k", 4)]) (N := NN) (sc := defScope sNames) (by decide +kernel))
          (fun _ _ _ _ _ => pg_name (i := 4) scNm.nd rfl (Or.inl rfl)) (fun _ _ _ _ _ => pts_nil) (fun _ _ _ _ _ => pe_op op_add_str (pe_op op_add_str (pe_slice sl_str (pv 3) po_none (po_some (pv 5)))
            (pe_ix ix_str (pv 2) (pe_op op_mod (pe_callTy call_int1 (by rfl) T.int (by decide +kernel) (pa_cons (pe_op op_add (pv 6) (pe_op op_mul (pv 7) (pv 4))) pa_nil)) pe_int) (fun _ _ => rfl))) (pe_slice sl_str (pv 3) (po_some (pv 5)) po_none))))))))), ?_⟩
    refine ⟨(by show 2 ≤ sizeLine; decide), fun p1 h1 => ⟨p1, _, rfl, .inl (.inl upd_same), rfl, _, _, rfl, _, _, rfl, rfl, ?_⟩⟩
    have s1 : Same H _ := Same.upd (o := .tup [.str alpha, .str ""]) h1
    refine ⟨_, rfl, m, l, n, 8, rfl, M.same s1, by omega, by decide, by decide, fun r0 l1 H1 r0p r0l M1 f1 => ?_⟩
    refine ⟨r0, rfl, by omega, by omega, ?_⟩
    refine for_range (lo := 0) (n := r0.toNat) (fun i σ H2 => ∃ (z : Str) (v4 : Option V) (l2 : Addr), σ = [some (.ref m), some (.int (k : Int)), some (.str alpha), some (.str z), v4, none, none, none, none] ∧ sOk i z ∧ Mch H2 m l2 (n + 1 + i) ∧ Fr m l l2 H H2)
      ⟨"", _, l1, rfl, ⟨Nat.le_refl _, fun c hc => by cases hc⟩, M1, Fr.lead s1 f1⟩ ?_ ?_
    · rintro i σ H2 hi ⟨z, v4, l2, rfl, hz, M2, f2⟩
      refine ⟨_, rfl, _, rfl, _, rfl, m, l2, _, 26, rfl, M2, by omega, by decide, by decide, fun r l3 H3 rp rl M3 f3 => ?_⟩
      obtain ⟨c, hc, hc2⟩ := alpha_at rp rl
      refine ⟨alpha, r, c, rfl, rfl, alpha_len, hc, z, _, rfl, rfl, ?_, ?_⟩
      · have := hz.1
        show z.length + 1 ≤ sizeLine
        exact small1000 (by omega)
      · exact ⟨_, _, l3, rfl, hz.app (sOk.sign hc2), M3, f2.trans f3⟩
    · rintro σ H2 ⟨z, v4, l2, rfl, hz, M2, f2⟩
      have z7 := hz.1
      have zs : z.length ≤ sizeLine := Nat.le_of_lt (small1000 (by omega))
      refine ⟨_, rfl, _, rfl, z, rfl, zs, _, _, rfl, rfl, m, l2, _, (z.length : Int) + 1, rfl, M2, by omega, by omega, by omega, fun r5 l3 H3 a5 b5 M3 f3 => ?_⟩
      refine ⟨_, rfl, m, l3, _, 26, rfl, M3, by omega, by decide, by decide, fun r6 l4 H4 a6 b6 M4 f4 => ?_⟩
      refine ⟨(by show 6 ≤ sizeLine; decide), fun pL hL => ?_⟩
      have sL := Same.upd (o := .lst [.int 1, .int 3, .int 5, .int 7, .int 9, .int 11]) hL
      have nL := M4.ne hL
      refine ⟨_, rfl, m, l4, _, 6, rfl, M4.same sL, by omega, by decide, by decide, fun r7 l5 H5 a7 b7 M5 f5 => ?_⟩
      obtain ⟨b, hb, b1, b11⟩ : ∃ b : Int, atI ([.int 1, .int 3, .int 5, .int 7, .int 9, .int 11] : List V) r7 = some (.int b) ∧ 1 ≤ b ∧ b ≤ 11 := by
        obtain ⟨j, rfl⟩ : ∃ j : Nat, r7 = (j : Int) := ⟨r7.toNat, by omega⟩
        have hj : j < 6 := by omega
        match j, hj with
        | 0, _ => exact ⟨1, rfl, by decide, by decide⟩
        | 1, _ => exact ⟨3, rfl, by decide, by decide⟩
        | 2, _ => exact ⟨5, rfl, by decide, by decide⟩
        | 3, _ => exact ⟨7, rfl, by decide, by decide⟩
        | 4, _ => exact ⟨9, rfl, by decide, by decide⟩
        | 5, _ => exact ⟨11, rfl, by decide, by decide⟩
      refine ⟨pL, _, r7, .int b, rfl, rfl, SqL.of (f5.keep pL _ upd_same nL.1 nL.2), hb, (by show 3 ≤ sizeLine; decide), fun p3 h3 => ?_⟩
      have F5 : Fr m l l5 H H5 := f2.trans (f3.trans (f4.trans (Fr.lead sL f5)))
      refine ⟨p3, _, rfl, .inl (.inl upd_same), rfl, _, _, rfl, _, _, rfl, _, _, rfl, rfl, ?_⟩
      have s3 := Same.upd (o := .tup [.int r5, .int r6, .int b]) h3
      have M6 := M5.same s3
      have F6 := F5.junk (o := .tup [.int r5, .int r6, .int b]) h3
      obtain ⟨c6, hc6, cc6⟩ := alpha_at a6 b6
      refine ⟨_, rfl, _, rfl, _, rfl, alpha, r6, c6, rfl, rfl, alpha_len, hc6, _, 8, rfl, rfl, mul8_ok c6, z, _, rfl, rfl, ?_, 8, rfl, _, rfl, ?_, ?_⟩
      · rw [mul8]
        show z.length + 8 ≤ sizeLine
        exact Nat.le_of_lt (small1000 (by omega))
      · rw [mul8, Str.length_append]
        show z.length + 8 ≤ sizeLine
        exact Nat.le_of_lt (small1000 (by omega))
      obtain ⟨W, hW, eW⟩ : ∃ W, sOk 16 W ∧ W = cutS (z ++ Txt.mul { cps := #[c6] } 8) none (some 8) := ⟨_, by
        rw [mul8]
        exact (((hz.mono (show r0.toNat ≤ 7 by omega)).app (b := 8) ⟨by show 8 ≤ 8; decide, fun d hd => by simp at hd; rw [hd]; exact cc6⟩).mono (by decide)).cut _ _, rfl⟩
      rw [← eW]
      have Wl : W.length ≤ sizeLine := Nat.le_trans hW.1 (by decide)
      have ek : ((k : Int)).toNat = k := by omega
      refine ⟨_, rfl, _, _, rfl, rfl, _, rfl, ite2 (fun _ => ?_) (fun _ => ?_)⟩
      · refine ⟨_, rfl, (k : Int), rfl, by omega, by omega, fun D hD => ?_⟩
        have nD := M6.ne hD
        refine lc_range (lo := 0) (n := ((k : Int)).toNat) (fun i H9 => ∃ ys : List Str, ys.length = i ∧ (∀ y ∈ ys, sOk 16 y) ∧ H9 = upd _ D (.lst (ys.map V.str))) ⟨[], rfl, (fun y hy => nomatch hy), rfl⟩ ?_ ?_
        · rintro i H9 hi ⟨ys, yl, yo, e9⟩
          refine ⟨rfl, tyes ?_⟩
          refine ⟨_, rfl, _, _, rfl, rfl, _, rfl, ite2 (fun _ => ?_) (fun _ => ?_)⟩
          · refine ⟨_, rfl, _, rfl, _, rfl, _, rfl, Wl, _, by rw [e9]; exact upd_same, small1000 (by rw [List.length_map]; omega), _, (by rw [List.length_append, yl]; rfl), ?_, str_grow e9⟩
            intro y hy
            rcases List.mem_append.mp hy with hy | hy
            · exact yo y hy
            · rw [List.mem_singleton.mp hy]; exact hW.cut _ _
          · refine ⟨_, rfl, _, rfl, _, _, rfl, rfl, _, rfl, _, _, rfl, rfl, _, rfl, _, rfl, Wl, _, by rw [e9]; exact upd_same, small1000 (by rw [List.length_map]; omega), _, (by rw [List.length_append, yl]; rfl), ?_, str_grow e9⟩
            intro y hy
            rcases List.mem_append.mp hy with hy | hy
            · exact yo y hy
            · rw [List.mem_singleton.mp hy]; exact hW.cut _ _
        · rintro H9 ⟨ys, yl, yo, e9⟩
          have sD := Same.upd (o := .lst (ys.map V.str)) hD
          rw [e9]
          exact q D ys l5 _ (F6.free hD) upd_same (by omega) yo nD.1 nD.2 ((M6.same sD).mono (by omega)) (F6.junk hD)
      · refine ⟨_, rfl, (k : Int), rfl, by omega, by omega, fun D hD => ?_⟩
        have nD := M6.ne hD
        refine lc_range (lo := 0) (n := ((k : Int)).toNat) (fun i H9 => ∃ ys : List Str, ys.length = i ∧ (∀ y ∈ ys, sOk 16 y) ∧ H9 = upd _ D (.lst (ys.map V.str))) ⟨[], rfl, (fun y hy => nomatch hy), rfl⟩ ?_ ?_
        · rintro i H9 hi ⟨ys, yl, yo, e9⟩
          have hz7 : sOk 7 z := hz.mono (by omega)
          obtain ⟨c9, hc9, cc9⟩ := alpha_at (i := (r6 + b * (0 + (i : Int))) % 26) (Int.emod_nonneg _ (by decide)) (Int.emod_lt_of_pos _ (by decide))
          have p1 := (hz7.cut none (some r5))
          have p2 := (p1.app (sOk.sign cc9))
          have p3' := p2.app (hz7.cut (some r5) none)
          refine ⟨rfl, tyes ?_⟩
          refine ⟨_, rfl, _, rfl, _, rfl, _, rfl, zs, _, rfl, _, rfl, _, rfl, _, rfl, _, _, rfl, rfl, .inr ⟨by omega, by omega⟩, _, _, rfl, rfl, .inl ⟨_, rfl, _, _, rfl, rfl, (by show (0 : Int) < 26; decide), ?_⟩⟩
          refine ⟨alpha, _, c9, rfl, rfl, alpha_len, hc9, _, _, rfl, rfl, ?_, _, rfl, _, rfl, _, rfl, _, rfl, zs, _, _, rfl, rfl, ?_, _, by rw [e9]; exact upd_same, small1000 (by rw [List.length_map]; omega), _, (by rw [List.length_append, yl]; rfl), ?_, str_grow e9⟩
          · have := p1.1
            show _ + 1 ≤ sizeLine
            exact Nat.le_of_lt (small1000 (by omega))
          · have := p2.1
            have := (hz7.cut (some r5) none).1
            exact Nat.le_of_lt (small1000 (by omega))
          · intro y hy
            rcases List.mem_append.mp hy with hy | hy
            · exact yo y hy
            · rw [List.mem_singleton.mp hy]; exact p3'.mono (by decide)
        · rintro H9 ⟨ys, yl, yo, e9⟩
          have sD := Same.upd (o := .lst (ys.map V.str)) hD
          rw [e9]
          exact q D ys l5 _ (F6.free hD) upd_same (by omega) yo nD.1 nD.2 ((M6.same sD).mono (by omega)) (F6.junk hD)
end
end Ms
namespace Ms
open PySem PySem.Spec PyProof.Rows L2
/-! ### zip(list, tuple) over KE's draws -/
/-- the list at a, the tuple at b, the items in new pairs -/
def ItZM (K : PySem.W.Frag) (a b : Addr) : It :=
  ⟨fun i H => ∃ (xs ys : List V), SqL K H a xs ∧ SqT K H b ys ∧ i < xs.length ∧ i < ys.length,
    fun i H v H' => ∃ T x y, v = .ref T ∧ H T = none ∧ H' = upd H T (.tup [x, y]) ∧ (∀ xs, SqL K H a xs → xs[i]? = some x) ∧ ∀ ys, SqT K H b ys → ys[i]? = some y,
    fun i H => ∃ xs ys : List V, SqL K H a xs ∧ SqT K H b ys ∧ i ≤ xs.length ∧ i ≤ ys.length ∧ (i = xs.length ∨ i = ys.length)⟩
theorem walk_zm {K : PySem.W.Frag} {a b : Addr} {xs ys : List V} {n : Nat} (hn : n = min xs.length ys.length) : Walk (ItZM K a b) n (fun H => SqL K H a xs ∧ SqT K H b ys) (YPair (fun i => xs[i]?) (fun i => ys[i]?)) := by
  subst hn
  refine ⟨fun i _ hi q => ⟨xs, ys, q.1, q.2, by omega, by omega⟩, fun _ q => ⟨xs, ys, q.1, q.2, by omega, by omega, by omega⟩, fun i H v H' _ q y => ?_⟩
  obtain ⟨T, x, z, h1, h2, h3, h4, h5⟩ := y
  exact ⟨T, x, z, h1, h2, h3, h4 xs q.1, h5 ys q.2⟩
section
variable {a b z TI TO i1 i2 : Addr}
abbrev zmCells (z TI TO i1 i2 : Addr) : List Addr := [z, TI, TO, i1, i2]
abbrev ZmSt (a b z TI TO i1 i2 : Addr) : Nat → Heap → Prop := fun i h => IsZip h z TI TO .none ∧ IsTupOf2 h TI (.ref i1) (.ref i2) ∧ (∃ x y, IsTupOf2 h TO x y) ∧ h.IsListIter i1 a i ∧ h.IsTupleIter i2 b i
theorem zm_mem {c z TI TO i1 i2 : Addr} (h : c ∈ zmCells z TI TO i1 i2) : c = z ∨ c = TI ∨ c = TO ∨ c = i1 ∨ c = i2 := by simpa using h
theorem zm_there {i : Nat} {h : Heap} (st : ZmSt a b z TI TO i1 i2 i h) : ∀ c ∈ zmCells z TI TO i1 i2, ∃ o, h.get? c = some o ∧ ∀ v, o.data ≠ .cell v := fun c hc => by
  obtain ⟨hz, hTI, ⟨x, y, hTO⟩, ⟨o1, e1, _, d1⟩, ⟨o2, e2, _, d2⟩⟩ := st
  rcases zm_mem hc with rfl | rfl | rfl | rfl | rfl
  · exact ⟨_, hz, fun v q => nomatch q⟩
  · exact ⟨_, hTI, fun v q => nomatch q⟩
  · exact ⟨_, hTO, fun v q => nomatch q⟩
  · exact ⟨o1, e1, fun v q => by rw [d1] at q; cases q⟩
  · exact ⟨o2, e2, fun v q => by rw [d2] at q; cases q⟩
theorem turn_zm {P : Program} {w : World} {K : PySem.W.Frag} {elts : List Expr} {kk : Nat} {tpos : Pos} (S : ZipSep2 z TI TO i1 i2 [i1, a] [i2, b]) (na : a ≠ i1) (nb : b ≠ i2) :
    Turn P w K (.Tuple elts kk tpos) (ItZM K a b) (zmCells z TI TO i1 i2) z (ZmSt a b z TI TO i1 i2) where
  mem := by simp
  obj := fun i h st => zm_there st
  keep := fun i h h' st k => by
    obtain ⟨hz, hTI, ⟨x, y, hTO⟩, h1, h2⟩ := st
    exact ⟨k z (by simp) _ hz, k TI (by simp) _ hTI, ⟨x, y, k TO (by simp) _ hTO⟩, h1.at fun o q => k i1 (by simp) o q, h2.at fun o q => k i2 (by simp) o q⟩
  item := by
    intro X hP hw hK hc i pins s σ H E I hf st hg
    subst hP hw hK
    have live := zm_there st
    obtain ⟨hz, hTI, ⟨x0, y0, hTO⟩, h1, h2⟩ := st
    obtain ⟨xs, ys, hqx, hqy, hi1, hi2⟩ := hg
    obtain ⟨its, rv, p, _⟩ := I.list hqx
    obtain ⟨its2, rv2, p2, _⟩ := I.tuple hqy
    have l1 := rv.length
    have l2 := rv2.length
    have hh : X.A.in1.handled = none := I.ok.hd hc
    have fresh : ∀ c ∈ zmCells z TI TO i1 i2, c ≠ s.heap.objs.size := fun c hc => by
      obtain ⟨o, e, _⟩ := live c hc
      exact Nat.ne_of_lt (Heap.lt_size e)
    refine wpAny_pyNext_zipD2_item S (Draws.list hh i1 a na its.toArray) (Draws.tuple hh i2 b nb its2.toArray) hz hTI hTO ⟨h1, p.isList⟩ ⟨h2, p2⟩ (by simp; omega) (by simp; omega) fun u u2 h' tk hu hu2 z' TO' st1' st2' hT hsz hk => ?_
    refine ⟨_, rfl, wpAny_letOwnedTupleGo_zip (s := { s with heap := h', toks := tk }) z' fun h'' z'' sb => ?_⟩
    have hx : xs[i]? = some xs[i] := List.getElem?_eq_getElem hi1
    have hy : ys[i]? = some ys[i] := List.getElem?_eq_getElem hi2
    obtain ⟨v, hv, ru⟩ := rv.get hx
    obtain ⟨v2, hv2, ru2⟩ := rv2.get hy
    have e1 : u = v := by simp [hv] at hu; exact hu.symm
    have e2 : u2 = v2 := by simp [hv2] at hu2; exact hu2.symm
    subst e1 e2
    have zN := fresh z (by simp)
    have hT2 : h''.get? s.heap.objs.size = some { cls := .type "tuple", data := .seq #[u, u2] } := (sb.2 _ zN.symm).trans hT
    have new : ObjOk X.prog X.w (upd H s.heap.objs.size (.tup [xs[i], ys[i]])) h'' s.heap.objs.size (.tup [xs[i], ys[i]]) :=
      ⟨(by show 2 ≤ sizeLine; decide), [u, u2], .cons ru (.cons ru2 .nil), ⟨_, hT2, rfl, _, rfl⟩⟩
    have I1 : L2.Inv X pins σ (upd H s.heap.objs.size (.tup [xs[i], ys[i]])) { s with heap := h'', toks := tk } :=
      I.turnedNew (t' := tk) (ch := zmCells z TI TO i1 i2) (fun c o hb q => (sb.2 c fun e => hb (by simp [e])).trans (hk c o (fun e => hb (by simp [e])) (fun e => hb (by simp [e])) (fun e => hb (by simp [e])) (fun e => hb (by simp [e])) q)) hf (Nat.le_refl _) new
    refine ⟨.ref s.heap.objs.size, _, I1, rfl, ⟨_, xs[i], ys[i], rfl, I.hok.fresh (Nat.le_refl _), rfl, fun l hl => ?_, fun l hl => ?_⟩, ⟨z'', (sb.2 _ S.TIz).trans (hk _ _ S.TIz S.TITO S.TIi1 S.TIi2 hTI), ⟨_, _, (sb.2 _ S.TOz).trans TO'⟩, st1'.1.at fun o q => (sb.2 _ S.zi1.symm).trans q, st2'.1.at fun o q => (sb.2 _ S.zi2.symm).trans q⟩, fun c hcm => ?_⟩
    · rw [I.list_inj hl hqx]; exact hx
    · rw [I.tuple_inj hl hqy]; exact hy
    · rw [upd_ne (fresh c hcm)]
      exact (hf c hcm).1
  done := by
    intro X hP hw hK hc i pins s σ H E I hf st hg
    subst hP hw hK
    obtain ⟨hz, hTI, ⟨x0, y0, hTO⟩, h1, h2⟩ := st
    obtain ⟨xs, ys, hqx, hqy, hi1, hi2, hend⟩ := hg
    obtain ⟨its, rv, p, _⟩ := I.list hqx
    obtain ⟨its2, rv2, p2, _⟩ := I.tuple hqy
    have l1 := rv.length
    have l2 := rv2.length
    have hh : X.A.in1.handled = none := I.ok.hd hc
    exact wpAny_pyNext_zipD2_end S (Draws.list hh i1 a na its.toArray) (Draws.tuple hh i2 b nb its2.toArray) hz hTI hTO ⟨h1, p.isList⟩ ⟨h2, p2⟩ (by simp; omega) (by simp; omega) (by simp; omega) fun h' tk hk =>
      ⟨rfl, I.turnedL (t' := tk) (ch := zmCells z TI TO i1 i2) (fun c o hb q => hk c o (fun e => hb (by simp [e])) (fun e => hb (by simp [e])) (fun e => hb (by simp [e])) (fun e => hb (by simp [e])) q) hf⟩
  self := fun A i s Q E st h => wpAny_pyIter_zip st.1 h
end
/-- zip(list, tuple) -/
def iZM (K : PySem.W.Frag) (ta : TA) : TI := fun σ H R => ta σ H fun vs H1 => ∃ a b xs ys, vs = [.ref a, .ref b] ∧ SqL K H1 a xs ∧ SqT K H1 b ys ∧ R (ItZM K a b) H1
theorem pi_zm {X : Cx} {e e2 : Expr} {ta : TA} {p pos tpos : Pos} {elts : List Expr} {kk : Nat} (hg : Gl X "zip") (hm : X.mg "zip" = none) (ha : PA X [e, e2] ta)
    (hs : starEach [e, e2] X.env = (false, eval e X.env) :: starEach [e2] X.env := by rfl) (hpl : (backTo pos (starEach [e2] X.env)).any (·.1) = false := by rfl) :
    PI X (.Tuple elts kk tpos) (.Call (.Name "zip" p) [e, e2] [] pos) (iZM X.K ta) := by
  refine ⟨fun pins s σ H R I h => Call_ (ld_blt I hg hm PyProof.Rows.boot_zip (PyProof.Rows.callWith_type1 (thn (ha.run pos pins s σ H _ I h) fun us s1 ⟨vs, H1, I1, r1, q1⟩ => ?_) hs hpl))⟩
  obtain ⟨a, b, xs, ys, ex, hqx, hqy, q⟩ := q1
  subst ex
  cases r1 with
  | cons r rr =>
    cases rr with
    | cons r' rr =>
      cases rr
      cases r
      cases r'
      obtain ⟨its, rv, p1, _⟩ := I1.list hqx
      obtain ⟨its2, rv2, p2, _⟩ := I1.tuple hqy
      obtain ⟨o2, ho2, _⟩ := id p2
      have la := p1.lt
      have lb : b < s1.heap.objs.size := Heap.lt_size ho2
      have fp : ∀ c ∈ zmCells (s1.heap.objs.size + 4) (s1.heap.objs.size + 2) (s1.heap.objs.size + 3) s1.heap.objs.size (s1.heap.objs.size + 1), FpOk X pins H1 c := fun c hcm => by
        have hle : s1.heap.objs.size ≤ c := by
          rcases zm_mem hcm with q | q | q | q | q
          · rw [q]; exact Nat.le_add_right _ _
          · rw [q]; exact Nat.le_add_right _ _
          · rw [q]; exact Nat.le_add_right _ _
          · rw [q]; exact Nat.le_refl _
          · rw [q]; exact Nat.le_add_right _ _
        exact I1.fpOk hle (I1.hok.fresh hle)
      have S : ZipSep2 (s1.heap.objs.size + 4) (s1.heap.objs.size + 2) (s1.heap.objs.size + 3) s1.heap.objs.size (s1.heap.objs.size + 1) [s1.heap.objs.size, a] [s1.heap.objs.size + 1, b] :=
        zip_sep2 (fun c h => by rw [List.mem_singleton.mp h]; exact la) (fun c h => by rw [List.mem_singleton.mp h]; exact lb)
      have nb : b ≠ s1.heap.objs.size + 1 := Nat.ne_of_lt (Nat.lt_succ_of_lt lb)
      have T := turn_zm (P := X.prog) (w := X.w) (K := X.K) (elts := elts) (kk := kk) (tpos := tpos) S (Nat.ne_of_lt la) nb
      refine zip_begins2 (begins_list a its.toArray) (begins_tuple b its2.toArray) p1.isList p2 fun h' hz hTI hTO h1 h2 hsz hk => wpAny_pyIter_zip hz ?_
      have I2 : L2.Inv X pins σ H1 { s1 with heap := h' } := I1.kept (t' := s1.toks) hk
      exact ⟨s1.heap.objs.size + 4, zmCells (s1.heap.objs.size + 4) (s1.heap.objs.size + 2) (s1.heap.objs.size + 3) s1.heap.objs.size (s1.heap.objs.size + 1), _, ItZM X.K a b, H1, rfl, I2, T,
        ⟨hz, hTI, ⟨_, _, hTO⟩, ⟨_, h1, rfl, rfl⟩, ⟨_, h2, rfl, rfl⟩⟩, fp, q⟩
end Ms
namespace Ms
open PySem PySem.Spec PyProof.Rows L2
/-! ### _law_settings -/
/-- pairs of a text and an int, each a tuple of its own -/
inductive Prs (H : Hp) : List Addr → List (Str × Int) → Prop
  | nil : Prs H [] []
  | cons {a : Addr} {as : List Addr} {y : Str} {k : Int} {ys : List (Str × Int)} : H a = some (.tup [.str y, .int k]) → Prs H as ys → Prs H (a :: as) ((y, k) :: ys)
theorem Prs.same {H H' : Hp} {as : List Addr} {ys : List (Str × Int)} (s : ∀ b o, b ∈ as → H b = some o → H' b = some o) (p : Prs H as ys) : Prs H' as ys := by
  induction p with
  | nil => exact .nil
  | cons h _ ih => exact .cons (s _ _ (List.mem_cons_self ..) h) (ih fun b o hb => s b o (List.mem_cons_of_mem _ hb))
theorem Prs.snoc {H : Hp} {as : List Addr} {ys : List (Str × Int)} {a : Addr} {y : Str} {k : Int} (p : Prs H as ys) (h : H a = some (.tup [.str y, .int k])) : Prs H (as ++ [a]) (ys ++ [(y, k)]) := by
  induction p with
  | nil => exact .cons h .nil
  | cons h' _ ih => exact .cons h' ih
theorem Prs.length {H : Hp} {as : List Addr} {ys : List (Str × Int)} (p : Prs H as ys) : as.length = ys.length := by
  induction p with
  | nil => rfl
  | cons _ _ ih => simp [ih]
theorem Prs.live {H : Hp} {as : List Addr} {ys : List (Str × Int)} (p : Prs H as ys) : ∀ a ∈ as, ∃ y k, H a = some (.tup [.str y, .int k]) := by
  induction p with
  | nil => intro a h; cases h
  | cons h' _ ih =>
    intro b hb
    rcases List.mem_cons.mp hb with rfl | hb
    · exact ⟨_, _, h'⟩
    · exact ih b hb
theorem Prs.get {H : Hp} {as : List Addr} {ys : List (Str × Int)} (p : Prs H as ys) : ∀ {i : Nat} {a : Addr}, as[i]? = some a → ∃ y k, ys[i]? = some (y, k) ∧ H a = some (.tup [.str y, .int k]) := by
  induction p with
  | nil => intro i a h; simp at h
  | cons h' _ ih =>
    intro i b hb
    cases i with
    | zero => simp at hb; subst hb; exact ⟨_, _, rfl, h'⟩
    | succ i => exact ih (by simpa using hb)
/-- the data of such pairs -/
def prD (ys : List (Str × Int)) : List PyData := ys.map fun q => .tuple [.str q.1, .int q.2]
theorem Prs.dq {K : PySem.W.Frag} {H : Hp} {m l : Addr} {as : List Addr} {ys : List (Str × Int)} (p : Prs H as ys) : DqAll K H m l (as.map V.ref) (prD ys) := by
  induction p with
  | nil => exact .nil
  | cons h _ ih => exact .cons (.tup (.inl (.inl h)) (.cons (.str _) (.cons (.int _) .nil))) ih
theorem Fr.trail {m l l' : Addr} {H H1 H2 : Hp} (f : Fr m l l' H H1) (s : Same H1 H2) : Fr m l l' H H2 :=
  ⟨fun b o e h1 h2 => s _ _ (f.keep b o e h1 h2), f.new, fun b h => by
    cases q : H1 b with
    | none => exact absurd q (f.dom b h)
    | some o => rw [s _ _ q]; exact fun z => nomatch z⟩
/-- how often each may stand: one to three small ints -/
def Mo (H : Hp) (a : Addr) : Prop := ∃ ms : List Int, H a = some (.tup (ms.map V.int)) ∧ 1 ≤ ms.length ∧ ms.length ≤ 3 ∧ ∀ x ∈ ms, 1 ≤ x ∧ x ≤ 3
theorem Mo.same {H H' : Hp} {a : Addr} (s : Same H H') (h : Mo H a) : Mo H' a := by
  obtain ⟨ms, e, r⟩ := h
  exact ⟨ms, s _ _ e, r⟩
section
variable {P : Program} {w : World} {K : PySem.W.Frag} {mg : Str → Option Value} {base : Heap} {fN fM : Addr}
structure TxtS (mg : Str → Option Value) (fN fM : Addr) : Prop extends TxtN mg fN where
  names : mg "_law_names" = some (.ref fM)
abbrev NS : List Str := ["m", "mosts", "some", "name", "most"]
theorem scSt : FnScope NS ["m"] (defScope sSettings) := ⟨rfl, rfl, rfl, by decide +kernel, rfl, by decide +kernel, by decide +kernel⟩
/-- good pairs: names of at most 16 signs, small numbers -/
def okP (ys : List (Str × Int)) : Prop := ∀ q ∈ ys, sOk 16 q.1 ∧ 1 ≤ q.2 ∧ q.2 ≤ 3
def spSettings : Sp := fun vs H Q _ => ∃ (m l : Addr) (n : Nat), vs = [.ref m] ∧ Mch H m l n ∧ n < 800000 ∧
  ∀ (p : Addr) (as : List Addr) (ys : List (Str × Int)) (l' : Addr) (H' : Hp), H' p = some (.tup (as.map V.ref)) → Prs H' as ys → 1 ≤ ys.length → ys.length ≤ 3 → okP ys → Mch H' m l' (n + 12) → Fr m l l' H H' → Q (.ref p) H'
theorem ok_settings {f : Addr} {fd fdN fdM : FuncData} (F : Fun K "_law_settings" "_law_settings" sSettings f fd) (T : TxtS mg fN fM) (FN : Fun K "_law_next" "_law_next" sNext fN fdN) (bN : Binds K fdN ["m", "many"] [])
    (FM : Fun K "_law_names" "_law_names" sNames fM fdM) (bM : Binds K fdM ["m", "many"] []) : FnOk P w K mg base CX0 3 f fd ["m"] spSettings := by
  have GN : FnOk P w K mg base CX0 2 fN fdN ["m", "many"] spNext := (ok_next FN T.toTxt).mono (by decide)
  have GM : FnOk P w K mg base CX0 2 fM fdM ["m", "many"] spNames := ok_names FM T.toTxtN FN bN
  refine F.ok scSt (fun vs H Q E h => ?_) (fun cdv A outer s H vs Q E hr h => ?_)
  · obtain ⟨m, l, n, rfl, _⟩ := h
    rfl
  · obtain ⟨m, l, n, rfl, M, hn, q⟩ := h
    refine ⟨_, pss_cons (ps_set (i := 1) scSt.nd rfl (by first | exact Or.inl rfl | exact Or.inr rfl) (pe_lst (pa_cons (pe_tup (pa_cons pe_int pa_nil)) (pa_cons (pe_tup (pa_cons pe_int pa_nil)) (pa_cons (pe_tup (pa_cons pe_int pa_nil)) (pa_cons (pe_tup (pa_cons pe_int (pa_cons pe_int pa_nil))) (pa_cons (pe_tup (pa_cons pe_int (pa_cons pe_int pa_nil))) (pa_cons (pe_tup (pa_cons pe_int (pa_cons pe_int pa_nil))) (pa_cons (pe_tup (pa_cons pe_int (pa_cons pe_int pa_nil))) (pa_cons (pe_tup (pa_cons pe_int (pa_cons pe_int pa_nil))) (pa_cons (pe_tup (pa_cons pe_int (pa_cons pe_int pa_nil))) (pa_cons (pe_tup (pa_cons pe_int (pa_cons pe_int (pa_cons pe_int pa_nil)))) (pa_cons (pe_tup (pa_cons pe_int (pa_cons pe_int (pa_cons pe_int pa_nil)))) (pa_cons (pe_tup (pa_cons pe_int (pa_cons pe_int (pa_cons pe_int pa_nil)))) pa_nil))))))))))))))
      (pss_cons (ps_set (i := 2) scSt.nd rfl (by first | exact Or.inl rfl | exact Or.inr rfl) (pe_ix ix_list (pv 1) (pe_call GN hr rfl T.next FN.kp bN .nil pass0 (pa_cons (pv 0) (pa_cons pe_int pa_nil))) (fun _ _ => rfl)))
      (pss_one (ps_ret (pe_callTy call_tuple_of (by rfl) T.tuple (by decide +kernel) (pa_cons (pe_lc (own := [("name", 3), ("most", 4)]) (g := gTup K 2 (gCons (gName 3) (gCons (gName 4) gNil))) (by rfl) scSt.nd
        (pi_zm (by rfl) T.zip (pa_cons (pe_call GM hr rfl T.names FM.kp bM .nil pass0 (pa_cons (pv 0) (pa_cons (pe_callB call_len (by rfl) T.len PySem.boot_len (pa_cons (pv 2) pa_nil)) pa_nil))) (pa_cons (pv 2) pa_nil)))
        (blkOk_by (own := [("name", 3), ("most", 4)]) (N := NS) (sc := defScope sSettings) (by decide +kernel))
        (fun _ _ _ _ _ => pg_tup rfl (pgs_cons (pg_name (i := 3) scSt.nd rfl (Or.inl rfl)) (pgs_cons (pg_name (i := 4) scSt.nd rfl (Or.inl rfl)) pgs_nil))) (fun _ _ _ _ _ => pts_nil)
        (fun _ _ _ _ _ => pe_tup (pa_cons (pv 3) (pa_cons (pv 4) pa_nil)))) pa_nil))))), ?_⟩
    refine ⟨(by show 1 ≤ sizeLine; decide), fun p1 h1 => ?_⟩
    obtain ⟨G1, e1⟩ : ∃ G, G = upd H p1 (.tup [.int 1]) := ⟨_, rfl⟩
    rw [← e1]
    have s1 : Same H G1 := e1 ▸ Same.upd h1
    have M1 := M.same s1
    have f1 : Fr m l l H G1 := e1 ▸ (Fr.refl M).junk h1
    have a1_1 : Mo G1 p1 := ⟨[1], by rw [e1, upd_same]; rfl, by decide, by decide, by decide⟩
    refine ⟨(by show 1 ≤ sizeLine; decide), fun p2 h2 => ?_⟩
    obtain ⟨G2, e2⟩ : ∃ G, G = upd G1 p2 (.tup [.int 2]) := ⟨_, rfl⟩
    rw [← e2]
    have s2 : Same G1 G2 := e2 ▸ Same.upd h2
    have M2 := M1.same s2
    have f2 : Fr m l l H G2 := e2 ▸ f1.junk h2
    have a2_2 : Mo G2 p2 := ⟨[2], by rw [e2, upd_same]; rfl, by decide, by decide, by decide⟩
    have a1_2 := a1_1.same s2
    refine ⟨(by show 1 ≤ sizeLine; decide), fun p3 h3 => ?_⟩
    obtain ⟨G3, e3⟩ : ∃ G, G = upd G2 p3 (.tup [.int 3]) := ⟨_, rfl⟩
    rw [← e3]
    have s3 : Same G2 G3 := e3 ▸ Same.upd h3
    have M3 := M2.same s3
    have f3 : Fr m l l H G3 := e3 ▸ f2.junk h3
    have a3_3 : Mo G3 p3 := ⟨[3], by rw [e3, upd_same]; rfl, by decide, by decide, by decide⟩
    have a1_3 := a1_2.same s3
    have a2_3 := a2_2.same s3
    refine ⟨(by show 2 ≤ sizeLine; decide), fun p4 h4 => ?_⟩
    obtain ⟨G4, e4⟩ : ∃ G, G = upd G3 p4 (.tup [.int 1, .int 1]) := ⟨_, rfl⟩
    rw [← e4]
    have s4 : Same G3 G4 := e4 ▸ Same.upd h4
    have M4 := M3.same s4
    have f4 : Fr m l l H G4 := e4 ▸ f3.junk h4
    have a4_4 : Mo G4 p4 := ⟨[1, 1], by rw [e4, upd_same]; rfl, by decide, by decide, by decide⟩
    have a1_4 := a1_3.same s4
    have a2_4 := a2_3.same s4
    have a3_4 := a3_3.same s4
    refine ⟨(by show 2 ≤ sizeLine; decide), fun p5 h5 => ?_⟩
    obtain ⟨G5, e5⟩ : ∃ G, G = upd G4 p5 (.tup [.int 1, .int 2]) := ⟨_, rfl⟩
    rw [← e5]
    have s5 : Same G4 G5 := e5 ▸ Same.upd h5
    have M5 := M4.same s5
    have f5 : Fr m l l H G5 := e5 ▸ f4.junk h5
    have a5_5 : Mo G5 p5 := ⟨[1, 2], by rw [e5, upd_same]; rfl, by decide, by decide, by decide⟩
    have a1_5 := a1_4.same s5
    have a2_5 := a2_4.same s5
    have a3_5 := a3_4.same s5
    have a4_5 := a4_4.same s5
    refine ⟨(by show 2 ≤ sizeLine; decide), fun p6 h6 => ?_⟩
    obtain ⟨G6, e6⟩ : ∃ G, G = upd G5 p6 (.tup [.int 2, .int 1]) := ⟨_, rfl⟩
    rw [← e6]
    have s6 : Same G5 G6 := e6 ▸ Same.upd h6
    have M6 := M5.same s6
    have f6 : Fr m l l H G6 := e6 ▸ f5.junk h6
    have a6_6 : Mo G6 p6 := ⟨[2, 1], by rw [e6, upd_same]; rfl, by decide, by decide, by decide⟩
    have a1_6 := a1_5.same s6
    have a2_6 := a2_5.same s6
    have a3_6 := a3_5.same s6
    have a4_6 := a4_5.same s6
    have a5_6 := a5_5.same s6
    refine ⟨(by show 2 ≤ sizeLine; decide), fun p7 h7 => ?_⟩
    obtain ⟨G7, e7⟩ : ∃ G, G = upd G6 p7 (.tup [.int 2, .int 2]) := ⟨_, rfl⟩
    rw [← e7]
    have s7 : Same G6 G7 := e7 ▸ Same.upd h7
    have M7 := M6.same s7
    have f7 : Fr m l l H G7 := e7 ▸ f6.junk h7
    have a7_7 : Mo G7 p7 := ⟨[2, 2], by rw [e7, upd_same]; rfl, by decide, by decide, by decide⟩
    have a1_7 := a1_6.same s7
    have a2_7 := a2_6.same s7
    have a3_7 := a3_6.same s7
    have a4_7 := a4_6.same s7
    have a5_7 := a5_6.same s7
    have a6_7 := a6_6.same s7
    refine ⟨(by show 2 ≤ sizeLine; decide), fun p8 h8 => ?_⟩
    obtain ⟨G8, e8⟩ : ∃ G, G = upd G7 p8 (.tup [.int 1, .int 3]) := ⟨_, rfl⟩
    rw [← e8]
    have s8 : Same G7 G8 := e8 ▸ Same.upd h8
    have M8 := M7.same s8
    have f8 : Fr m l l H G8 := e8 ▸ f7.junk h8
    have a8_8 : Mo G8 p8 := ⟨[1, 3], by rw [e8, upd_same]; rfl, by decide, by decide, by decide⟩
    have a1_8 := a1_7.same s8
    have a2_8 := a2_7.same s8
    have a3_8 := a3_7.same s8
    have a4_8 := a4_7.same s8
    have a5_8 := a5_7.same s8
    have a6_8 := a6_7.same s8
    have a7_8 := a7_7.same s8
    refine ⟨(by show 2 ≤ sizeLine; decide), fun p9 h9 => ?_⟩
    obtain ⟨G9, e9⟩ : ∃ G, G = upd G8 p9 (.tup [.int 3, .int 2]) := ⟨_, rfl⟩
    rw [← e9]
    have s9 : Same G8 G9 := e9 ▸ Same.upd h9
    have M9 := M8.same s9
    have f9 : Fr m l l H G9 := e9 ▸ f8.junk h9
    have a9_9 : Mo G9 p9 := ⟨[3, 2], by rw [e9, upd_same]; rfl, by decide, by decide, by decide⟩
    have a1_9 := a1_8.same s9
    have a2_9 := a2_8.same s9
    have a3_9 := a3_8.same s9
    have a4_9 := a4_8.same s9
    have a5_9 := a5_8.same s9
    have a6_9 := a6_8.same s9
    have a7_9 := a7_8.same s9
    have a8_9 := a8_8.same s9
    refine ⟨(by show 3 ≤ sizeLine; decide), fun p10 h10 => ?_⟩
    obtain ⟨G10, e10⟩ : ∃ G, G = upd G9 p10 (.tup [.int 1, .int 1, .int 1]) := ⟨_, rfl⟩
    rw [← e10]
    have s10 : Same G9 G10 := e10 ▸ Same.upd h10
    have M10 := M9.same s10
    have f10 : Fr m l l H G10 := e10 ▸ f9.junk h10
    have a10_10 : Mo G10 p10 := ⟨[1, 1, 1], by rw [e10, upd_same]; rfl, by decide, by decide, by decide⟩
    have a1_10 := a1_9.same s10
    have a2_10 := a2_9.same s10
    have a3_10 := a3_9.same s10
    have a4_10 := a4_9.same s10
    have a5_10 := a5_9.same s10
    have a6_10 := a6_9.same s10
    have a7_10 := a7_9.same s10
    have a8_10 := a8_9.same s10
    have a9_10 := a9_9.same s10
    refine ⟨(by show 3 ≤ sizeLine; decide), fun p11 h11 => ?_⟩
    obtain ⟨G11, e11⟩ : ∃ G, G = upd G10 p11 (.tup [.int 1, .int 2, .int 1]) := ⟨_, rfl⟩
    rw [← e11]
    have s11 : Same G10 G11 := e11 ▸ Same.upd h11
    have M11 := M10.same s11
    have f11 : Fr m l l H G11 := e11 ▸ f10.junk h11
    have a11_11 : Mo G11 p11 := ⟨[1, 2, 1], by rw [e11, upd_same]; rfl, by decide, by decide, by decide⟩
    have a1_11 := a1_10.same s11
    have a2_11 := a2_10.same s11
    have a3_11 := a3_10.same s11
    have a4_11 := a4_10.same s11
    have a5_11 := a5_10.same s11
    have a6_11 := a6_10.same s11
    have a7_11 := a7_10.same s11
    have a8_11 := a8_10.same s11
    have a9_11 := a9_10.same s11
    have a10_11 := a10_10.same s11
    refine ⟨(by show 3 ≤ sizeLine; decide), fun p12 h12 => ?_⟩
    obtain ⟨G12, e12⟩ : ∃ G, G = upd G11 p12 (.tup [.int 1, .int 1, .int 2]) := ⟨_, rfl⟩
    rw [← e12]
    have s12 : Same G11 G12 := e12 ▸ Same.upd h12
    have M12 := M11.same s12
    have f12 : Fr m l l H G12 := e12 ▸ f11.junk h12
    have a12_12 : Mo G12 p12 := ⟨[1, 1, 2], by rw [e12, upd_same]; rfl, by decide, by decide, by decide⟩
    have a1_12 := a1_11.same s12
    have a2_12 := a2_11.same s12
    have a3_12 := a3_11.same s12
    have a4_12 := a4_11.same s12
    have a5_12 := a5_11.same s12
    have a6_12 := a6_11.same s12
    have a7_12 := a7_11.same s12
    have a8_12 := a8_11.same s12
    have a9_12 := a9_11.same s12
    have a10_12 := a10_11.same s12
    have a11_12 := a11_11.same s12
    refine ⟨(by show 12 ≤ sizeLine; decide), fun D hD => ?_⟩
    obtain ⟨G, eG⟩ : ∃ G, G = upd G12 D (.lst [.ref p1, .ref p2, .ref p3, .ref p4, .ref p5, .ref p6, .ref p7, .ref p8, .ref p9, .ref p10, .ref p11, .ref p12]) := ⟨_, rfl⟩
    rw [← eG]
    have sG : Same G12 G := eG ▸ Same.upd hD
    have nD := M12.ne hD
    have MG := M12.same sG
    have fG : Fr m l l H G := eG ▸ f12.junk hD
    have gD : G D = some (.lst [.ref p1, .ref p2, .ref p3, .ref p4, .ref p5, .ref p6, .ref p7, .ref p8, .ref p9, .ref p10, .ref p11, .ref p12]) := by rw [eG, upd_same]
    have pick : ∀ r : Int, 0 ≤ r → r < 12 → ∃ a, atI ([.ref p1, .ref p2, .ref p3, .ref p4, .ref p5, .ref p6, .ref p7, .ref p8, .ref p9, .ref p10, .ref p11, .ref p12] : List V) r = some (.ref a) ∧ Mo G a := by
      intro r h0 h1
      obtain ⟨j, rfl⟩ : ∃ j : Nat, r = (j : Int) := ⟨r.toNat, by omega⟩
      have hj : j < 12 := by omega
      match j, hj with
      | 0, _ => exact ⟨p1, rfl, a1_12.same sG⟩
      | 1, _ => exact ⟨p2, rfl, a2_12.same sG⟩
      | 2, _ => exact ⟨p3, rfl, a3_12.same sG⟩
      | 3, _ => exact ⟨p4, rfl, a4_12.same sG⟩
      | 4, _ => exact ⟨p5, rfl, a5_12.same sG⟩
      | 5, _ => exact ⟨p6, rfl, a6_12.same sG⟩
      | 6, _ => exact ⟨p7, rfl, a7_12.same sG⟩
      | 7, _ => exact ⟨p8, rfl, a8_12.same sG⟩
      | 8, _ => exact ⟨p9, rfl, a9_12.same sG⟩
      | 9, _ => exact ⟨p10, rfl, a10_12.same sG⟩
      | 10, _ => exact ⟨p11, rfl, a11_12.same sG⟩
      | 11, _ => exact ⟨p12, rfl, a12_12.same sG⟩
    clear e1 s1 M1 f1 e2 s2 M2 f2 e3 s3 M3 f3 e4 s4 M4 f4 e5 s5 M5 f5 e6 s6 M6 f6 e7 s7 M7 f7 e8 s8 M8 f8 e9 s9 M9 f9 e10 s10 M10 f10 e11 s11 M11 f11 a1_1 a1_2 a2_2 a1_3 a2_3 a3_3 a1_4 a2_4 a3_4 a4_4 a1_5 a2_5 a3_5 a4_5 a5_5 a1_6 a2_6 a3_6 a4_6 a5_6 a6_6 a1_7 a2_7 a3_7 a4_7 a5_7 a6_7 a7_7 a1_8 a2_8 a3_8 a4_8 a5_8 a6_8 a7_8 a8_8 a1_9 a2_9 a3_9 a4_9 a5_9 a6_9 a7_9 a8_9 a9_9 a1_10 a2_10 a3_10 a4_10 a5_10 a6_10 a7_10 a8_10 a9_10 a10_10 a1_11 a2_11 a3_11 a4_11 a5_11 a6_11 a7_11 a8_11 a9_11 a10_11 a11_11 a1_12 a2_12 a3_12 a4_12 a5_12 a6_12 a7_12 a8_12 a9_12 a10_12 a11_12 a12_12
    refine ⟨_, rfl, _, rfl, m, l, n, 12, rfl, MG, by omega, by decide, by decide, fun r l1 H1 r0 r1 M1 f1' => ?_⟩
    obtain ⟨a, ha, mo⟩ := pick r r0 r1
    refine ⟨D, _, r, .ref a, rfl, rfl, SqL.of (f1'.keep D _ gD nD.1 nD.2), ha, ?_⟩
    obtain ⟨ms, hms, ml1, ml3, msok⟩ := mo
    have am : a ≠ m ∧ a ≠ l := by
      obtain ⟨c, cs, ls, z, dm, dc, dl, _⟩ := MG.ex
      exact ⟨ne_of hms dm (by intro q; cases q), ne_of hms dl (by intro q; cases q)⟩
    have ka : H1 a = some (.tup (ms.map V.int)) := f1'.keep a _ hms am.1 am.2
    have F1 : Fr m l l1 H H1 := fG.trans f1'
    clear pick gD eG sG MG fG hD e12 s12 M12 f12 h12 h11 h10 h9 h8 h7 h6 h5 h4 h3 h2 h1 ha f1' hms
    have lenA : ((ms.map V.int).length : Nat) = ms.length := List.length_map ..
    refine ⟨_, rfl, _, rfl, _, _, rfl, .inr ⟨_, SqT.of ka, rfl⟩, ?_⟩
    refine ⟨m, l1, n + 1, (ms.map V.int).length, rfl, M1, by omega, by omega, by omega, fun N ys l2 H2 hN gN yl yo nm nl M2 f2 => ?_⟩
    have F2 := F1.trans f2
    have ka2 : H2 a = some (.tup (ms.map V.int)) := f2.keep a _ ka am.1 (by
      obtain ⟨c, cs, ls, z, dm, dc, dl, _⟩ := M1.ex
      exact ne_of ka dl (by intro q; cases q))
    refine ⟨_, rfl, N, a, _, _, rfl, SqL.of gN, .inl (.inl ka2), fun D2 hD2 => ?_⟩
    have yl' : ys.length = ms.length := yl.trans lenA
    refine lc_it (walk_zm (xs := ys.map V.str) (ys := ms.map V.int) (n := ms.length) (by simp [yl'])) (fun i H3 => ∃ as : List Addr, as.length = i ∧ Prs H3 as ((ys.zip ms).take i) ∧ (∀ b ∈ as, b ≠ D2) ∧ H3 D2 = some (.lst (as.map V.ref)) ∧ Same H2 H3)
      ⟨[], rfl, .nil, (fun _ hb => nomatch hb), upd_same, Same.upd hD2⟩ (fun i H3 _ ⟨as, _, _, _, _, s3⟩ => ⟨SqL.of (s3 _ _ gN), SqT.of (s3 _ _ ka2)⟩) ?_ ?_
    · rintro i x H3 H4 hi ⟨as, al, pr, nd, gd, s3⟩ ⟨T, x1, x2, rfl, hT, rfl, e1, e2⟩
      have hy : i < ys.length := by omega
      have e1' : x1 = .str ys[i] := by simp [hy] at e1; exact e1.symm
      have e2' : x2 = .int ms[i] := by simp [hi] at e2; exact e2.symm
      subst e1' e2'
      refine ⟨T, _, rfl, .inl (.inl upd_same), rfl, _, _, rfl, _, _, rfl, rfl, rfl, tyes ?_⟩
      refine ⟨_, rfl, _, rfl, (by show 2 ≤ sizeLine; decide), fun p hp => ?_⟩
      have sT : Same H3 (upd H3 T (.tup [.str ys[i], .int ms[i]])) := Same.upd hT
      have sp : Same (upd H3 T (.tup [.str ys[i], .int ms[i]])) (upd (upd H3 T (.tup [.str ys[i], .int ms[i]])) p (.tup [.str ys[i], .int ms[i]])) := Same.upd hp
      have nDp : p ≠ D2 := fun e => by rw [e, sT _ _ gd] at hp; cases hp
      refine ⟨_, sp _ _ (sT _ _ gd), small1000 (by rw [List.length_map]; omega), as ++ [p], by simp [al], ?_, ?_, ?_, ?_⟩
      · rw [List.take_succ]
        have ez : (ys.zip ms)[i]? = some (ys[i], ms[i]) := by rw [List.getElem?_zip_eq_some]; exact ⟨List.getElem?_eq_getElem hy, List.getElem?_eq_getElem hi⟩
        rw [ez]
        refine Prs.snoc (Prs.same (fun b o hb e => ?_) pr) ?_
        · rw [upd_ne (nd b hb)]; exact sp _ _ (sT _ _ e)
        · rw [upd_ne nDp, upd_same]
      · intro b hb
        rcases List.mem_append.mp hb with hb | hb
        · exact nd b hb
        · rw [List.mem_singleton.mp hb]; exact nDp
      · rw [upd_same, List.map_append]; rfl
      · intro b o e
        have nb : b ≠ D2 := ne_of_none e hD2
        rw [upd_ne nb]; exact sp _ _ (sT _ _ (s3 _ _ e))
    · rintro H3 ⟨as, al, pr, nd, gd, s3⟩
      have lz : (ys.zip ms).length = ms.length := by simp [yl']
      rw [List.take_of_length_le (by omega)] at pr
      refine ⟨D2, _, rfl, .inl ⟨SqL.of gd, fun p hp => ?_⟩⟩
      have sp : Same H3 (upd H3 p (.tup (as.map V.ref))) := Same.upd hp
      refine q p as (ys.zip ms) l2 _ upd_same (pr.same fun b o _ e => sp b o e) (by omega) (by omega) (fun y hy => ?_) ((((M2.same s3).same sp)).mono (by omega)) ((F2.trail s3).trail sp)
      have := List.of_mem_zip hy
      exact ⟨yo _ this.1, msok _ this.2⟩
end
end Ms
namespace Ms
open PySem PySem.Spec PyProof.Rows L2
abbrev big : Nat := 10 ^ 30
def gdB (B a b : Nat) (d : PyData) : Bool := okD B d && (decide (d.weight ≤ a) && decide (d.depth ≤ b))
theorem gd_of {B a b : Nat} {d : PyData} (h : gdB B a b d = true) : Gd B a b d := by
  unfold gdB at h
  simp only [Bool.and_eq_true, decide_eq_true_eq] at h
  exact ⟨h.1, h.2.1, h.2.2⟩
end Ms
namespace Ms
open PySem PySem.Spec PyProof.Rows L2
/-! ### two rules over tuples -/
/-- t == (), whatever the items are -/
theorem op_eq_nil {X : Cx} (hu : X.A.units + 64 < cLine) : OpR X (compareOp .Eq) (fun x y H Q => ∃ a b xs, x = .ref a ∧ y = .ref b ∧ SqT X.K H a xs ∧ SqT X.K H b [] ∧ Q (.bl (xs.length == 0)) H) := by
  intro pins s σ H x y v u Q I rx ry h
  obtain ⟨a, b, xs, rfl, rfl, ha, hb, q⟩ := h
  cases rx
  cases ry
  obtain ⟨its, r1, p1, _⟩ := I.tuple ha
  obtain ⟨its2, r2, p2, _⟩ := I.tuple hb
  cases r2
  have hl := r1.length
  refine SeqAt.eq_tupleAt (e := fun _ => true) p1 p2 (by omega) (fun j h1 h2 => by simp at h2) ?_
  refine ⟨.bl _, H, I, rfl, ?_⟩
  have e : ((List.range (min its.toArray.size ([] : List Value).toArray.size)).all (fun _ => true) && its.toArray.size == ([] : List Value).toArray.size) = (xs.length == 0) := by
    rw [hl]; simp
  rw [e]; exact q
section
variable {prog : Program} {w : World} {A : Around} {E : Value → Shared → Prop} {s : Shared}
theorem places_rev (n : Nat) : Builtin.Slice.slicePlaces ((n : Int) - 1) (-1) (-1) = n := by
  unfold Builtin.Slice.slicePlaces
  have h1 : ¬ ((-1 : Int) > 0) := by decide
  have h2 : (- -1 : Int) = 1 := by decide
  simp only [h1, if_false, h2, Int.ediv_one]
  split <;> omega
theorem applied_rev {sl : Addr} {vs : Value} {n : Nat} {Q : Int × Int × Nat → Shared → Prop} (hs : s.heap.IsSliceOf sl .none .none vs) (ps : IsPart vs (some (-1)))
    (h : Q ((n : Int) - 1, -1, n) s) : wpAny (model prog w) A (Builtin.Slice.sliceApplied (.ref sl) (pure (n : Int))) Q E s := by
  obtain ⟨os, hos, hcs, hds⟩ := id hs
  unfold Builtin.Slice.sliceApplied Builtin.Slice.sliceFields
  refine wpAny_bind (wpAny_bind (wpAny_field hos hds (x := .none) rfl (wpAny_bind (wpAny_field hos hds (x := .none) rfl (wpAny_bind (wpAny_field hos hds (x := vs) rfl (wpAny_pure ?_)))))))
  refine wpAny_bind (HT.slicePart_ ps ?_)
  show wpAny _ _ (if ((-1 : Int) == 0) = true then _ else _) _ _ s
  rw [if_neg (by decide)]
  refine wpAny_bind (HT.slicePart_ .none (wpAny_bind (HT.slicePart_ .none (wpAny_bind (wpAny_pure ?_)))))
  show wpAny _ _ (pure ((n : Int) - 1, (-1 : Int), Builtin.Slice.slicePlaces ((n : Int) - 1) (-1) (-1))) _ _ s
  rw [places_rev]
  exact wpAny_pure h
theorem pick_rev (xs : Array Value) : ((List.range xs.size).filterMap fun (m : Nat) => xs[((xs.size : Int) - 1 + (m : Int) * (-1)).toNat]?).toArray = xs.toList.reverse.toArray := by
  have e : (List.range xs.size).filterMap (fun (m : Nat) => xs[((xs.size : Int) - 1 + (m : Int) * (-1)).toNat]?) = ((List.range xs.size).map fun k => xs.size - 1 - k).filterMap (xs[·]?) := by
    have g : ∀ (f : Nat → Option Value), (List.range xs.size).filterMap f = ((List.range xs.size).map f).filterMap id := fun f => by rw [List.filterMap_map]; rfl
    rw [List.filterMap_map, g, g]
    refine congrArg (List.filterMap id) (List.map_congr_left fun m hm => ?_)
    have := List.mem_range.mp hm
    have q : ((xs.size : Int) - 1 + (m : Int) * (-1)).toNat = xs.size - 1 - m := by omega
    show _ = xs[xs.size - 1 - m]?
    rw [q]
  rw [e, PySem.W.krv_range, List.filterMap_reverse, PySem.W.krv_all]
theorem getItem_tuple_rev {t sl : Addr} {items : Array Value} {vs : Value} {Q : Value → Shared → Prop} (ht : IsTup s.heap t items) (hs : s.heap.IsSliceOf sl .none .none vs) (ps : IsPart vs (some (-1)))
    (h : Q (.ref s.heap.objs.size) { s with heap := s.heap.push { cls := .type "tuple", data := .seq items.toList.reverse.toArray } })
    (hsz : items.size ≤ sizeLine) : wpAny (model prog w) A (getItem (.ref t) (.ref sl)) Q E s := by
  have hrev : sizeOk (.seq items.toList.reverse.toArray) := by
    show items.toList.reverse.toArray.size ≤ sizeLine
    simpa using hsz
  obtain ⟨os, hos, hcs, hds⟩ := id hs
  have hTs : s.TypeIs (.ref sl) "slice" := ⟨os, hos, hcs⟩
  have seq : ∀ {Q : Value → Shared → Prop}, wpAny (model prog w) A.in1 (Builtin.«tuple.__getitem__» ⟨[.ref t, .ref sl], []⟩) (fun fin s' => ∃ v, fin = .done (.ret v) ∧ Q v s') E s → wpAny (model prog w) A (getItem (.ref t) (.ref sl)) Q E s := fun {Q} run => by
    unfold getItem
    first | with_reducible apply wpAny_holding | skip
    first | refine wpAny_bind (wpAny_pure (wpAny_bind (wpAny_sequenceKey ht.typeIs (by decide) ?_))) | refine wpAny_bind (wpAny_sequenceKey ht.typeIs (by decide) ?_)
    exact wpAny_bind (wpAny_callSpecial?_slot (name := Str.ofString "__getitem__") ht.typeIs PyProof.Rows.slot_tuple_getitem (wpAny_call_entry PyProof.Rows.slot_tuple_getitem ht.typeIs PyProof.Rows.entry_tuple_getitem (wpAny_mono run (fun fin s1 ⟨v, e, q⟩ => ⟨v, e, wpAny_pure q⟩) (fun _ _ x => x)) (PyProof.Rows.args_tuple_getitem _ _)))
  refine seq ?_
  show wpAny _ _ (Builtin.Tuple.tupleItemsOf (.ref t) >>= _) _ _ s
  refine wpAny_bind (PyProof.Rows.tupleItemsOf_ ht ?_)
  refine wpAny_bind (wpAny_typeOf hTs ?_)
  rw [if_pos (by decide)]
  refine wpAny_bind (applied_rev hs ps ?_)
  have hno : ¬ ((((items.size : Int) - 1) == 0 && (-1 : Int) == 1 && items.size == items.size) = true) := by simp
  show wpAny _ _ (if (((items.size : Int) - 1) == 0 && (-1 : Int) == 1 && items.size == items.size) = true then _ else _) _ _ s
  rw [if_neg hno, pick_rev]
  first
    | exact wpAny_bind (m := Builtin.Tuple.tupleExact _) (wpAny_newObj_type (wpAny_pure ⟨_, rfl, h⟩) hrev)
    | exact wpAny_bind (m := Builtin.Tuple.tupleExact _) (wpAny_newObj_type (wpAny_bind (wpAny_pure (wpAny_pure ⟨_, rfl, h⟩))) hrev)
    | exact wpAny_bind (wpAny_bind (m := Builtin.Tuple.tupleExact _) (wpAny_newObj_type (wpAny_pure (wpAny_pure ⟨_, rfl, h⟩)) hrev))
    | exact wpAny_bind (wpAny_bind (m := Builtin.Tuple.tupleExact _) (wpAny_newObj_type (wpAny_pure ⟨_, rfl, h⟩) hrev))
end
/-- t[::-1] -/
def tRevT (K : PySem.W.Frag) (te : TE) : TE := fun σ H Q => te σ H fun x H1 => ∃ a xs, x = .ref a ∧ SqT K H1 a xs ∧ ∀ p, H1 p = none → Q (.ref p) (upd H1 p (.tup xs.reverse))
theorem pe_revT {X : Cx} {e : Expr} {te : TE} {k : Nat} {p1 p2 p3 pos : Pos} (he : PE X e te) : PE X (.Subscript e (.Slice none none (some (.UnaryOp .USub (.Constant (.int 1) k p1) p2)) p3) pos) (tRevT X.K te) := by
  refine ⟨fun pins s σ H Q I h => Subscript_ (thn (he.run pins s σ H _ I h) fun v s1 ⟨x, H1, I1, r1, q1⟩ => ?_)⟩
  obtain ⟨a, xs, ex, hx, q⟩ := q1
  subst ex
  cases r1
  have hst : PO X (some (.UnaryOp .USub (.Constant (.int 1) k p1) p2)) (tPart (tUn (rU fun i => .int (-i)) (tC (.int 1)))) := po_some (pe_un un_neg pe_int)
  refine wpAny_Slice ?_
  rw [evalPart_none]
  refine wpAny_pure ?_
  refine wpAny_pure ?_
  refine thn (hst.run pins s1 σ H1 (fun o H4 => o = some (-1) ∧ H4 = H1) I1 ⟨1, rfl, -1, rfl, rfl, rfl⟩) fun vs s4 ⟨o, H4, I4, ps, eo, e4⟩ => ?_
  subst eo e4
  have I5 : L2.Inv X pins σ H4 { s4 with heap := s4.heap.push { cls := .type "slice", data := .fields #[.none, .none, vs] } } := I4.kept (t' := s4.toks) fun b ob q => Heap.get?_push_of_some _ q
  obtain ⟨its, r, ht, hz⟩ := I5.tuple hx
  have hlen := r.length
  show wpAny (model X.prog X.w) X.A (subscriptTail e (.Slice none none (some (.UnaryOp .USub (.Constant (.int 1) k p1) p2)) p3) (.ref a) (.ref s4.heap.objs.size)) (EP X pins σ Q) X.xe { s4 with heap := s4.heap.push { cls := .type "slice", data := .fields #[.none, .none, vs] } }
  refine tail_any (ops := [.ref a, .ref s4.heap.objs.size]) ht.typeIs PyProof.Rows.slot_tuple_getitem.lookup ?_ (by with_unfolding_all rfl)
  refine getItem_tuple_rev ht (Heap.IsSliceOf.new _ .none .none vs) ps ?_ (by rw [List.size_toArray]; omega)
  refine ⟨.ref _, _, I5.laid (t' := s4.toks) (o := .tup xs.reverse) (fun b ob q => Heap.get?_push_of_some _ q) (Nat.le_refl _) ?_, rfl, q _ (I5.hok.fresh (Nat.le_refl _))⟩
  exact ⟨by rw [List.length_reverse]; exact hz, _, r.reverse, ⟨_, Heap.get?_push_size _ rfl, rfl, _, rfl⟩⟩
/-! ### the kinds of data -/
def tyD : PyData → String
  | .none => "NoneType"
  | .bool _ => "bool"
  | .int _ => "int"
  | .str _ => "str"
  | .list _ => "list"
  | .tuple _ => "tuple"
  | .dict _ => "dict"
theorem Dq.ty {K : PySem.W.Frag} {H : Hp} {m l : Addr} {v : V} {d : PyData} (h : Dq K H m l v d) : TyX K H v (.type (tyD d)) := by
  cases h with
  | non => exact .base .non
  | bl b => exact .base (.bl b)
  | int i => exact .base (.int i)
  | str x => exact .base (.str x)
  | lst e _ _ _ => exact .base (.lst e)
  | dct e _ _ => exact .base (.dK e)
  | tup e _ =>
    rcases e with (e | ⟨o, e⟩) | ⟨o, its, n, e, c, _⟩
    · exact .base (.tup e)
    · exact .fTuple e
    · exact .kTuple e c
theorem isi_str (K : PySem.W.Frag) (d : PyData) : PySem.W.kitOne K (.type (tyD d)) (.type "str") = some (match d with | .str _ => true | _ => false) := by cases d <;> rfl
theorem isi_int (K : PySem.W.Frag) (d : PyData) : PySem.W.kitOne K (.type (tyD d)) (.type "int") = some (match d with | .int _ | .bool _ => true | _ => false) := by cases d <;> rfl
theorem isi_bool (K : PySem.W.Frag) (d : PyData) : PySem.W.kitOne K (.type (tyD d)) (.type "bool") = some (match d with | .bool _ => true | _ => false) := by cases d <;> rfl
theorem isi_tup (K : PySem.W.Frag) (d : PyData) : PySem.W.kitOne K (.type (tyD d)) (.type "tuple") = some (match d with | .tuple _ => true | _ => false) := by cases d <;> rfl
end Ms
namespace Ms
open PySem PySem.Spec PyProof.Rows L2
/-! ### slices and joins of tuples, whole or not -/
theorem Same.seqT {K : PySem.W.Frag} {H H' : Hp} {a : Addr} {xs : List V} (e : Same H H') (h : SqT K H a xs) : SqT K H' a xs := by
  rcases h with (h | ⟨o, h⟩) | h
  · exact .inl (.inl (e _ _ h))
  · exact .inl (.inr ⟨o, e _ _ h⟩)
  · exact .inr h
theorem cutV_whole {xs : List V} {lo hi : Option Int} (h : HT.sIx xs.length 0 lo = 0 ∧ HT.sIx xs.length xs.length hi = xs.length) : cutV xs lo hi = xs := by
  unfold cutV
  rw [h.1, h.2, List.drop_zero, Nat.sub_zero, List.take_length]
theorem slA_any {K : PySem.W.Frag} {H : Hp} {a : Addr} {xs : List V} {lo hi : Option Int} {Q : VK} (h : SqT K H a xs) (q : ∀ (p : Addr) (H' : Hp), Same H H' → SqT K H' p (cutV xs lo hi) → Q (.ref p) H') : rSlA K (.ref a) lo hi H Q :=
  ⟨a, xs, rfl, h, fun w => q a H (fun _ _ e => e) (by rw [cutV_whole w]; exact h), fun _ p hp => q p _ (Same.upd hp) (.inl (.inl upd_same))⟩
theorem catA_any {K : PySem.W.Frag} {H : Hp} {a b : Addr} {xs ys : List V} {Q : VK} (h : SqT K H a xs) (h2 : SqT K H b ys) (hl : xs.length + ys.length ≤ sizeLine) (q : ∀ (p : Addr) (H' : Hp), Same H H' → SqT K H' p (xs ++ ys) → Q (.ref p) H') : rCatA K (.ref a) (.ref b) H Q :=
  ⟨a, b, xs, ys, rfl, rfl, h, h2, hl, fun e => q b H (fun _ _ e => e) (by rw [e]; exact h2), fun _ e => q a H (fun _ _ e => e) (by rw [e, List.append_nil]; exact h), fun _ _ p hp => q p _ (Same.upd hp) (.inl (.inl upd_same))⟩
theorem cut_to {xs : List V} {i : Nat} (h : i ≤ xs.length) : cutV xs none (some (i : Int)) = xs.take i := by
  unfold cutV
  rw [HT.sIx_nat, HT.sIx_none, List.drop_zero, Nat.sub_zero, Nat.min_eq_left h]
theorem cut_from {xs : List V} {i : Nat} (h : i ≤ xs.length) : cutV xs (some (i : Int)) none = xs.drop i := by
  unfold cutV
  rw [HT.sIx_nat, HT.sIx_none, Nat.min_eq_left h]
  exact List.take_of_length_le (by simp)
theorem cut_one {xs : List V} {i : Nat} (h : i < xs.length) : cutV xs (some (i : Int)) (some ((i : Int) + 1)) = (xs.drop i).take 1 := by
  have e : ((i : Int) + 1) = ((i + 1 : Nat) : Int) := by omega
  unfold cutV
  rw [e, HT.sIx_nat, HT.sIx_nat, Nat.min_eq_left (by omega), Nat.min_eq_left (by omega)]
  have : i + 1 - i = 1 := by omega
  rw [this]
theorem cut_from1 {xs : List V} {i : Nat} (h : i < xs.length) : cutV xs (some ((i : Int) + 1)) none = xs.drop (i + 1) := by
  have e : ((i : Int) + 1) = ((i + 1 : Nat) : Int) := by omega
  rw [e]; exact cut_from h
/-! ### lists of data -/
section
variable {K : PySem.W.Frag} {H : Hp} {m l : Addr}
theorem DqAll.app {vs ws : List V} : ∀ {ds es : List PyData}, DqAll K H m l vs ds → DqAll K H m l ws es → DqAll K H m l (vs ++ ws) (ds ++ es) := by
  intro ds
  induction ds generalizing vs with
  | nil => intro es h1 h2; cases h1; exact h2
  | cons d ds ih => intro es h1 h2; cases h1 with | cons a b => exact .cons a (ih b h2)
theorem DqAll.len {vs : List V} : ∀ {ds : List PyData}, DqAll K H m l vs ds → vs.length = ds.length := by
  intro ds
  induction ds generalizing vs with
  | nil => intro h; cases h; rfl
  | cons d ds ih => intro h; cases h with | cons a b => simp [ih b]
theorem DqAll.drop {vs : List V} : ∀ {ds : List PyData} (i : Nat), DqAll K H m l vs ds → DqAll K H m l (vs.drop i) (ds.drop i) := by
  intro ds
  induction ds generalizing vs with
  | nil => intro i h; cases h; simp; exact .nil
  | cons d ds ih =>
    intro i h
    cases h with
    | cons a b =>
      cases i with
      | zero => exact .cons a b
      | succ i => simpa using ih i b
theorem DqAll.take {vs : List V} : ∀ {ds : List PyData} (i : Nat), DqAll K H m l vs ds → DqAll K H m l (vs.take i) (ds.take i) := by
  intro ds
  induction ds generalizing vs with
  | nil => intro i h; cases h; simp; exact .nil
  | cons d ds ih =>
    intro i h
    cases h with
    | cons a b =>
      cases i with
      | zero => simp; exact .nil
      | succ i => simpa using DqAll.cons a (ih i b)
theorem DqAll.rev {vs : List V} : ∀ {ds : List PyData}, DqAll K H m l vs ds → DqAll K H m l vs.reverse ds.reverse := by
  intro ds
  induction ds generalizing vs with
  | nil => intro h; cases h; exact .nil
  | cons d ds ih => intro h; cases h with | cons a b => rw [List.reverse_cons, List.reverse_cons]; exact (ih b).app (.cons a .nil)
end
theorem wA_app : ∀ (xs ys : List PyData), PyData.weightAll (xs ++ ys) = PyData.weightAll xs + PyData.weightAll ys
  | [], ys => by simp [PyData.weightAll]
  | x :: xs, ys => by simp only [List.cons_append, PyData.weightAll, wA_app xs ys]; omega
theorem wA_rev : ∀ (xs : List PyData), PyData.weightAll xs.reverse = PyData.weightAll xs
  | [] => rfl
  | x :: xs => by rw [List.reverse_cons, wA_app, wA_rev xs]; simp only [PyData.weightAll]; omega
theorem wA_split (xs : List PyData) (i : Nat) : PyData.weightAll (xs.take i) + PyData.weightAll (xs.drop i) = PyData.weightAll xs := by
  rw [← wA_app, List.take_append_drop]
theorem wA_len : ∀ (xs : List PyData), xs.length ≤ PyData.weightAll xs
  | [] => Nat.le_refl _
  | x :: xs => by simp only [List.length_cons, PyData.weightAll]; have := wA_len xs; omega
theorem dA_iff {c : Nat} : ∀ {xs : List PyData}, PyData.depthAll xs ≤ c ↔ ∀ x ∈ xs, x.depth ≤ c
  | [] => by simp [PyData.depthAll]
  | x :: xs => by simp only [PyData.depthAll, List.mem_cons, forall_eq_or_imp]; rw [Nat.max_le, dA_iff (xs := xs)]
/-- a list of good data -/
structure Gl' (B w c : Nat) (ds : List PyData) : Prop where
  ok : ∀ d ∈ ds, okD B d = true
  wt : PyData.weightAll ds ≤ w
  dp : ∀ d ∈ ds, d.depth ≤ c
theorem Gd.tup {B a b : Nat} {ds : List PyData} (g : Gl' B a b ds) : Gd B a (b + 1) (.tuple ds) :=
  ⟨by simp only [okD]; exact okAll_iff.mpr g.ok, by simp only [PyData.weight]; exact g.wt, by simp only [PyData.depth]; exact Nat.succ_le_succ (dA_iff.mpr g.dp)⟩
theorem Gd.lst {B a b : Nat} {ds : List PyData} (g : Gl' B a b ds) : Gd B a (b + 1) (.list ds) :=
  ⟨by simp only [okD]; exact okAll_iff.mpr g.ok, by simp only [PyData.weight]; exact g.wt, by simp only [PyData.depth]; exact Nat.succ_le_succ (dA_iff.mpr g.dp)⟩
theorem Gd.untup {B a b : Nat} {ds : List PyData} (g : Gd B a b (.tuple ds)) : ∃ c, b = c + 1 ∧ Gl' B a c ds := by
  obtain ⟨h1, h2, h3⟩ := g
  simp only [okD] at h1
  simp only [PyData.weight] at h2
  simp only [PyData.depth] at h3
  obtain ⟨c, rfl⟩ : ∃ c, b = c + 1 := ⟨b - 1, by omega⟩
  exact ⟨c, rfl, okAll_iff.mp h1, h2, dA_iff.mp (by omega)⟩
section
variable {B a c : Nat} {ds es : List PyData}
theorem Gl'.mono {B' a' c' : Nat} (g : Gl' B a c ds) (h1 : B ≤ B') (h2 : a ≤ a') (h3 : c ≤ c') : Gl' B' a' c' ds :=
  ⟨fun d h => okD_mono h1 d (g.ok d h), Nat.le_trans g.wt h2, fun d h => Nat.le_trans (g.dp d h) h3⟩
theorem Gl'.app {a2 : Nat} (g : Gl' B a c ds) (h : Gl' B a2 c es) : Gl' B (a + a2) c (ds ++ es) :=
  ⟨fun d q => (List.mem_append.mp q).elim (g.ok d) (h.ok d), by rw [wA_app]; have := g.wt; have := h.wt; omega, fun d q => (List.mem_append.mp q).elim (g.dp d) (h.dp d)⟩
theorem Gl'.tk (g : Gl' B a c ds) (i : Nat) : Gl' B (PyData.weightAll (ds.take i)) c (ds.take i) := ⟨fun d q => g.ok d (List.mem_of_mem_take q), Nat.le_refl _, fun d q => g.dp d (List.mem_of_mem_take q)⟩
theorem Gl'.dr (g : Gl' B a c ds) (i : Nat) : Gl' B (PyData.weightAll (ds.drop i)) c (ds.drop i) := ⟨fun d q => g.ok d (List.mem_of_mem_drop q), Nat.le_refl _, fun d q => g.dp d (List.mem_of_mem_drop q)⟩
theorem Gl'.rv (g : Gl' B a c ds) : Gl' B a c ds.reverse := ⟨fun d q => g.ok d (List.mem_reverse.mp q), by rw [wA_rev]; exact g.wt, fun d q => g.dp d (List.mem_reverse.mp q)⟩
theorem Gl'.one {d : PyData} {w : Nat} (g : Gd B w c d) : Gl' B (w + 1) c [d] :=
  ⟨fun x h => by rw [List.mem_singleton.mp h]; exact g.ok, by simp only [PyData.weightAll]; have := g.wt; omega, fun x h => by rw [List.mem_singleton.mp h]; exact g.dp⟩
theorem Gl'.at (g : Gl' B a c ds) {i : Nat} {d : PyData} (h : ds[i]? = some d) : Gd B d.weight c d := ⟨g.ok d (List.mem_of_getElem? h), Nat.le_refl _, g.dp d (List.mem_of_getElem? h)⟩
theorem wA_at {i : Nat} {d : PyData} (h : ds[i]? = some d) : PyData.weightAll (ds.take i) + (d.weight + 1) + PyData.weightAll (ds.drop (i + 1)) = PyData.weightAll ds := by
  have hi : i < ds.length := (List.getElem?_eq_some_iff.mp h).1
  have e : ds[i] = d := (List.getElem?_eq_some_iff.mp h).2
  rw [← wA_split ds i, List.drop_eq_getElem_cons hi, e]
  simp only [PyData.weightAll]
  omega
end
/-! ### texts and numbers -/
theorem Gd.str {B a : Nat} {z : Str} (h : sOk a z) : Gd B a 0 (.str z) := ⟨h.okd, by simp only [PyData.weight]; exact h.1, Nat.le_refl _⟩
theorem Gd.unstr {B a b : Nat} {z : Str} (g : Gd B a b (.str z)) : sOk a z := by
  obtain ⟨h1, h2, _⟩ := g
  simp only [okD, List.all_eq_true, decide_eq_true_eq] at h1
  simp only [PyData.weight] at h2
  exact ⟨h2, h1⟩
theorem mul2 (z : Str) : sOk (2 * z.length) (Txt.mul z 2) ∨ ¬ sOk z.length z := by
  by_cases h : sOk z.length z
  · refine .inl ?_
    unfold Txt.mul
    rw [if_neg (by decide)]
    by_cases e : ((2 : Int) == 1 || z.length == 0) = true
    · rw [if_pos e]; exact h.mono (by omega)
    · rw [if_neg e]
      have q : ((List.replicate (2 : Int).toNat z.cps).foldl (· ++ ·) #[] : Array Nat) = z.cps ++ z.cps := by
        show (#[] ++ z.cps) ++ z.cps = _
        rw [Array.empty_append]
      rw [q]
      have := h.app h
      refine this.mono (by omega)
  · exact .inr h
theorem mul2_ok {a : Nat} {z : Str} (h : sOk a z) : sOk (2 * a) (Txt.mul z 2) := by
  rcases mul2 z with q | q
  · exact q.mono (by have := h.1; omega)
  · exact absurd ⟨Nat.le_refl _, h.2⟩ q
theorem wt_int {i : Int} (h : i.natAbs ≤ 10 ^ 31) : PyData.weight (.int i) ≤ 104 := by
  simp only [PyData.weight]
  split
  · decide
  · rename_i z
    have h1 : i.natAbs < 2 ^ 103 := by
      have e : (10 : Nat) ^ 31 < 2 ^ 103 := by decide
      omega
    have nz : i.natAbs ≠ 0 := by
      intro e
      exact z (by simp; omega)
    have := (Nat.log2_lt nz).mpr h1
    omega
theorem Gd.int {B : Nat} {i : Int} (h : i.natAbs ≤ B) (hB : B ≤ 10 ^ 31) : Gd B 104 0 (.int i) :=
  ⟨by simp only [okD, decide_eq_true_eq]; exact h, wt_int (by omega), Nat.le_refl _⟩
theorem Gd.unint {B a b : Nat} {i : Int} (g : Gd B a b (.int i)) : i.natAbs ≤ B := by
  have := g.ok
  simpa only [okD, decide_eq_true_eq] using this
theorem ite_b {c : Bool} {A B : Prop} (h1 : c = true → A) (h2 : c = false → B) : if c = true then A else B := by
  cases c
  · rw [if_neg Bool.false_ne_true]; exact h2 rfl
  · rw [if_pos rfl]; exact h1 rfl
theorem noPart {σ : L2.St} {H : Hp} {Q : Option Int → Hp → Prop} (h : Q none H) : tNoPart σ H Q := h
end Ms
namespace Ms
open PySem PySem.Spec PyProof.Rows L2
def isWhole (d : PyData) (lo hi : Int) : Bool := match d with | .int i => decide (lo ≤ i) && decide (i ≤ hi) | _ => false
def isName (d : PyData) : Bool := match d with | .str z => (decide (1 ≤ z.length) && decide (z.length ≤ 8)) && z.cps.toList.all fun c => decide (c ∈ alpha.cps.toList) | _ => false
theorem lay_strs : ∀ ys : List Str, (∀ y ∈ ys, PyData.canLay0 (.str y) = true) → PyData.canLayAll0 (ys.map PyData.str) = true
  | [], _ => rfl
  | y :: ys, h => by
    show (PyData.canLay0 (.str y) && PyData.canLayAll0 (ys.map PyData.str)) = true
    rw [lay_strs ys (fun x hx => h x (List.mem_cons_of_mem _ hx)), h y (List.mem_cons_self ..)]; rfl
theorem depth_strs : ∀ ys : List Str, PyData.depthAll (ys.map PyData.str) = 0
  | [] => rfl
  | y :: ys => by
    show max (PyData.depth (.str y)) (PyData.depthAll (ys.map PyData.str)) = 0
    rw [depth_strs ys]; rfl
theorem shaped_strs (ys : List Str) (h : ∀ y ∈ ys, PyData.canLay0 (.str y) = true) : SeqAt.shaped (.list (ys.map PyData.str)) = true := by
  show (PyData.canLayAll0 (ys.map PyData.str) && decide (PyData.depthAll (ys.map PyData.str) + 1 ≤ 64)) = true
  rw [lay_strs ys h, depth_strs]; rfl
theorem dpAll_strs {K : PySem.W.Frag} {H : Hp} : ∀ ys : List Str, DpAll K H (ys.map V.str) (ys.map PyData.str)
  | [] => .nil
  | y :: ys => .cons (.str y) (dpAll_strs ys)
structure TxtQ (mg : Str → Option Value) : Prop where
  isi : mg "isinstance" = none
  int : mg "int" = none
  bool : mg "bool" = none
  str : mg "str" = none
  len : mg "len" = none
def spWhole (K : PySem.W.Frag) : Sp := fun vs H Q _ => ∃ (m l : Addr) (v : V) (d : PyData) (lo hi : Int), vs = [v, .int lo, .int hi] ∧ Dq K H m l v d ∧ Q (.bl (isWhole d lo hi)) H
def spName (K : PySem.W.Frag) : Sp := fun vs H Q _ => ∃ (m l : Addr) (v : V) (d : PyData), vs = [v] ∧ Dq K H m l v d ∧ (∀ z, d = .str z → sOk 100000 z) ∧ ∀ H', Same H H' → Q (.bl (isName d)) H'
end Ms
namespace Ms
open PySem PySem.Spec PyProof.Rows L2
/-! ### enumerate(tuple) over KE's draws -/
def ItET (K : PySem.W.Frag) (a : Addr) : It :=
  ⟨fun i H => ∃ xs : List V, SqT K H a xs ∧ i < xs.length,
    fun i H v H' => ∃ T x, v = .ref T ∧ H T = none ∧ H' = upd H T (.tup [.int (i : Nat), x]) ∧ ∀ xs, SqT K H a xs → xs[i]? = some x,
    fun i H => ∃ xs : List V, SqT K H a xs ∧ i = xs.length⟩
theorem walk_et {K : PySem.W.Frag} {a : Addr} {xs : List V} : Walk (ItET K a) xs.length (fun H => SqT K H a xs) (YPair (fun i => some (.int (i : Nat))) (fun i => xs[i]?)) := by
  refine ⟨fun i _ hi q => ⟨xs, q, hi⟩, fun _ q => ⟨xs, q, rfl⟩, fun i H v H' _ q y => ?_⟩
  obtain ⟨T, x, h1, h2, h3, h4⟩ := y
  exact ⟨T, .int (i : Nat), x, h1, h2, h3, rfl, h4 xs q⟩
abbrev EtSt (a e it : Addr) : Nat → Heap → Prop := fun i h => (∃ old, IsEnum h e it ((0 : Int) + (i : Int)) old) ∧ h.IsTupleIter it a i
theorem turn_et {P : Program} {w : World} {K : PySem.W.Frag} {elts : List Expr} {kk : Nat} {tpos : Pos} {a e it : Addr} (na : a ≠ it) (ne : e ≠ it) (nea : e ≠ a) :
    Turn P w K (.Tuple elts kk tpos) (ItET K a) [e, it] e (EtSt a e it) where
  mem := by simp
  obj := fun i h st b hb => by
    obtain ⟨⟨old, he⟩, ⟨o, ho, hc, hd⟩⟩ := st
    have e' : b = e ∨ b = it := by simpa using hb
    rcases e' with rfl | rfl
    · exact ⟨_, he, fun v q => nomatch q⟩
    · exact ⟨o, ho, fun v q => by rw [hd] at q; cases q⟩
  keep := fun i h h' st k => by
    obtain ⟨⟨old, he⟩, hi⟩ := st
    exact ⟨⟨old, k e (by simp) _ he⟩, hi.at fun o q => k it (by simp) o q⟩
  item := by
    intro X hP hw hK hc i pins s σ H E I hf st hg
    subst hP hw hK
    obtain ⟨xs, hq, hi⟩ := hg
    obtain ⟨its, rv, p, _⟩ := I.tuple hq
    have l1 := rv.length
    have hh : X.A.in1.handled = none := I.ok.hd hc
    have W := GoesN.enumFrom (elts := elts) (x1 := kk) (pos := tpos) 0 (Draws.tuple (prog := X.prog) (w := X.w) hh it a na its.toArray) e ne (by simp [ne, nea]) (by simp)
    have lv : ∀ c ∈ [e, it], c < s.heap.objs.size := fun c hc => by
      obtain ⟨⟨old, he⟩, ⟨o, ho, _⟩⟩ := st
      have e' : c = e ∨ c = it := by simpa using hc
      rcases e' with rfl | rfl
      · exact Heap.lt_size he
      · exact Heap.lt_size ho
    refine W.goes i s (fun u s2 => ∃ x H', L2.Inv X pins σ H' s2 ∧ RelV x u ∧ (ItET X.K a).yld i H x H' ∧ EtSt a e it (i + 1) s2.heap ∧ ∀ b ∈ [e, it], H' b = none) E (by simp; omega) ⟨st.1, st.2, p⟩ fun v h' tk Y st' hk htk => ?_
    obtain ⟨T, t, x, rfl, hT, hx, hI⟩ := Y
    have hxx : xs[i]? = some xs[i] := List.getElem?_eq_getElem hi
    obtain ⟨u, hu, ru⟩ := rv.get hxx
    have ex : x = u := by simp [hu] at hx; exact hx.symm
    subst ex
    have new : ObjOk X.prog X.w (upd H T (.tup [.int (i : Nat), xs[i]])) h' T (.tup [.int (i : Nat), xs[i]]) :=
      ⟨(by show 2 ≤ sizeLine; decide), [.int (0 + (i : Int)) t, x], .cons ⟨t, by rw [Int.zero_add]⟩ (.cons ru .nil), hI⟩
    have I1 : L2.Inv X pins σ (upd H T (.tup [.int (i : Nat), xs[i]])) { s with heap := h', toks := tk } := I.turnedNew (t' := tk) (ch := [e, it]) hk hf hT new
    refine ⟨.ref T, _, I1, rfl, ⟨T, xs[i], rfl, I.hok.fresh hT, rfl, fun ys hy => by rw [I.tuple_inj hy hq]; exact hxx⟩, ⟨st'.1, st'.2.1⟩, fun b hb => ?_⟩
    rw [upd_ne (Nat.ne_of_lt (Nat.lt_of_lt_of_le (lv b hb) hT))]
    exact (hf b hb).1
  done := by
    intro X hP hw hK hc i pins s σ H E I hf st hg
    subst hP hw hK
    obtain ⟨xs, hq, hi⟩ := hg
    obtain ⟨its, rv, p, _⟩ := I.tuple hq
    have l1 := rv.length
    have hh : X.A.in1.handled = none := I.ok.hd hc
    have W := GoesN.enumFrom (elts := elts) (x1 := kk) (pos := tpos) 0 (Draws.tuple (prog := X.prog) (w := X.w) hh it a na its.toArray) e ne (by simp [ne, nea]) (by simp)
    have ei : i = its.toArray.size := by simp; omega
    rw [ei] at st
    exact W.stops s (fun s1 => L2.Inv X pins σ H s1) E ⟨st.1, st.2, p⟩ fun h' tk hk htk => I.turnedL (t' := tk) (ch := [e, it]) hk hf
  self := fun A i s Q E st h => let ⟨⟨_, he⟩, _⟩ := st; wpAny_pyIter_enum he h
def iET (K : PySem.W.Frag) (ta : TA) : TI := fun σ H R => ta σ H fun vs H1 => ∃ a xs, vs = [.ref a] ∧ SqT K H1 a xs ∧ R (ItET K a) H1
set_option maxHeartbeats 1000000 in
/-- enumerate(v), v told by how its iterator begins -/
theorem meets_en1 {v : Value} {o : Obj} {HP : Heap → Prop} (B : Begins v o HP) :
    Meets (Builtin.«enumerate.__new__» ⟨[.type "enumerate", v], []⟩) (fun _ R s => HP s.heap ∧
      R (.ok (.ret (.ref (s.heap.push o).objs.size))) { s with heap := (s.heap.push o).push { cls := .type "enumerate", data := .fields #[.none, .bool false, .ref s.heap.objs.size, rawInt 0, .none, .none] } }) :=
  .of_wp fun prog w A R s h => by
    obtain ⟨hp, g, d, tk, os⟩ := s
    obtain ⟨h1, h⟩ := h
    have hsub := sub_enumerate
    have begins : ∀ {A' : Around} {E : Value → Shared → Prop} {Q : Value → Shared → Prop}, Q (.ref hp.objs.size) ⟨hp.push o, g, d, tk, os⟩ → wpAny (model prog w) A' (pyIter v) Q E ⟨hp, g, d, tk, os⟩ :=
      fun q => B.iter prog w _ _ ⟨hp, g, d, tk, os⟩ _ h1 q
    wp_walk using begins
    refine wpAny_stack_any fun st => wpAny_pure ?_
    split
    · rename_i c _ _ _ _ _
      cases (c == Value.type "enumerate") <;> (wp_walk using begins; exact ⟨_, rfl, h⟩)
    · wp_walk using begins
      exact ⟨_, rfl, h⟩
theorem pi_et {X : Cx} {e : Expr} {ta : TA} {p pos tpos : Pos} {elts : List Expr} {kk : Nat} (hg : Gl X "enumerate") (hm : X.mg "enumerate" = none) (ha : PA X [e] ta) (hs : starEach [e] X.env = [(false, eval e X.env)] := by rfl) :
    PI X (.Tuple elts kk tpos) (.Call (.Name "enumerate" p) [e] [] pos) (iET X.K ta) := by
  refine ⟨fun pins s σ H R I h => Call_ (ld_blt I hg hm boot_enumerate (PyProof.Rows.callWith_type1 (thn (ha.run pos pins s σ H _ I h) fun us s1 ⟨vs, H1, I1, r1, q1⟩ => ?_) hs rfl))⟩
  obtain ⟨a, xs, ex, hq, q⟩ := q1
  subst ex
  obtain ⟨u, rfl, ru⟩ := vals1 r1
  cases ru
  obtain ⟨its, rv, p1, _⟩ := I1.tuple hq
  obtain ⟨oa, hoa, _⟩ := id p1
  have la : a < s1.heap.objs.size := Heap.lt_size hoa
  refine callType_new F.called_enumerate (by decide) (F.typeCall_enumerate_1 _) (F.newCall_enumerate_1 _) (fun obj => F.args_object_init_2 obj _) F.entry_enumerate_new (meets_en1 (begins_tuple a its.toArray)) ⟨p1, ?_⟩
  obtain ⟨oi, hoi⟩ : ∃ oi : Obj, oi = { cls := .type "tuple_iterator", data := .fields #[.ref a, .int 0 0] } := ⟨_, rfl⟩
  obtain ⟨oe, hoe⟩ : ∃ oe : Obj, oe = { cls := .type "enumerate", data := .fields #[.none, .bool false, .ref s1.heap.objs.size, rawInt 0, .none, .none] } := ⟨_, rfl⟩
  rw [← hoi, ← hoe]
  have hz : (s1.heap.push oi).objs.size = s1.heap.objs.size + 1 := Heap.size_push ..
  have ge : ((s1.heap.push oi).push oe).get? (s1.heap.objs.size + 1) = some oe := by
    have := Heap.get?_push_size (s1.heap.push oi) (o := oe) (by rw [hoe]; rfl)
    rw [hz] at this; exact this
  have gi : ((s1.heap.push oi).push oe).get? s1.heap.objs.size = some oi := Heap.get?_push_of_some _ (Heap.get?_push_size _ (by rw [hoi]; rfl))
  have hk : ∀ b o, s1.heap.get? b = some o → ((s1.heap.push oi).push oe).get? b = some o := fun b o x => Heap.get?_push_of_some _ (Heap.get?_push_of_some _ x)
  show _ ∧ _
  rw [hz]
  have he : IsEnum ((s1.heap.push oi).push oe) (s1.heap.objs.size + 1) s1.heap.objs.size 0 .none := ge.trans (by rw [hoe])
  refine ⟨⟨_, ge, by rw [hoe]⟩, wpAny_pyIter_enum he ?_⟩
  have I2 : L2.Inv X pins σ H1 { s1 with heap := (s1.heap.push oi).push oe } := I1.kept (t' := s1.toks) hk
  have n1 : s1.heap.objs.size + 1 ≠ s1.heap.objs.size := Nat.succ_ne_self _
  have n2 : s1.heap.objs.size + 1 ≠ a := Nat.ne_of_gt (Nat.lt_succ_of_lt la)
  refine ⟨s1.heap.objs.size + 1, [s1.heap.objs.size + 1, s1.heap.objs.size], EtSt a (s1.heap.objs.size + 1) s1.heap.objs.size, ItET X.K a, H1, rfl, I2, turn_et (Nat.ne_of_lt la) n1 n2, ⟨⟨.none, he⟩, ⟨oi, gi, by rw [hoi], by rw [hoi]; rfl⟩⟩, fun c hc => ?_, q⟩
  have e' : c = s1.heap.objs.size + 1 ∨ c = s1.heap.objs.size := by simpa using hc
  have hle : s1.heap.objs.size ≤ c := by
    rcases e' with e | e
    · rw [e]; exact Nat.le_succ _
    · rw [e]; exact Nat.le_refl _
  exact I1.fpOk hle (I1.hok.fresh hle)
end Ms
namespace Ms
open PySem PySem.Spec PyProof.Rows L2
/-! ### _law_due -/
/-- a good pair -/
def oneD : PyData → Option (Str × Int)
  | .tuple [.str z, .int c] => if (isName (.str z) && isWhole (.int c) 1 3) = true then some (z, c) else none
  | _ => none
def dueGo : Nat → List Str → Int → List PyData → Sum Nat Int
  | _, _, many, [] => .inr many
  | p, seen, many, d :: ds => match oneD d with
    | none => .inl p
    | some (z, c) => if z ∈ seen then .inl p else dueGo (p + 1) (seen ++ [z]) (many * (c + 1)) ds
def bad (d : PyData) : PyData := .tuple [.str "settings", d]
def dueD (d : PyData) : PyData := match d with
  | .tuple ds => if 1 ≤ ds.length ∧ ds.length ≤ 3 then (match dueGo 0 [] 1 ds with | .inl p => bad (.int p) | .inr many => if many ≤ 12 then .list [d] else bad (.str "many")) else bad .none
  | _ => bad .none
theorem oneD_name {d0 d1 : PyData} (h : isName d0 = false) : oneD (.tuple [d0, d1]) = none := by
  cases d0 <;> cases d1 <;> first | rfl | (simp only [oneD]; rw [h]; rfl)
theorem oneD_whole {d0 d1 : PyData} (h : isWhole d1 1 3 = false) : oneD (.tuple [d0, d1]) = none := by
  cases d0 <;> cases d1 <;> first | rfl | (simp only [oneD]; rw [h, Bool.and_false]; rfl)
theorem oneD_len {es : List PyData} (h : es.length ≠ 2) : oneD (.tuple es) = none := by
  match es, h with
  | [], _ => rfl
  | [x], _ => cases x <;> rfl
  | [_, _], h => exact absurd rfl h
  | x :: y :: z :: r, _ => cases x <;> cases y <;> rfl
theorem oneD_ok {d0 d1 : PyData} (h : isName d0 = true) (h1 : isWhole d1 1 3 = true) : ∃ z c, d0 = .str z ∧ d1 = .int c ∧ 1 ≤ c ∧ c ≤ 3 ∧ oneD (.tuple [d0, d1]) = some (z, c) := by
  cases d0 with
  | str z =>
    cases d1 with
    | int c =>
      refine ⟨z, c, rfl, rfl, ?_, ?_, by simp only [oneD]; rw [h, h1]; rfl⟩
      · have := (Bool.and_eq_true _ _ ▸ h1 : _ ∧ _).1
        exact of_decide_eq_true this
      · have := (Bool.and_eq_true _ _ ▸ h1 : _ ∧ _).2
        exact of_decide_eq_true this
    | _ => exact absurd h1 (by simp [isWhole])
  | _ => exact absurd h (by simp [isName])
theorem inV_str (z : Str) (ys : List Str) : inV (.str z) (ys.map V.str) = decide (z ∈ ys) := by
  unfold inV
  rw [List.any_map]
  rw [Bool.eq_iff_iff]
  simp only [List.any_eq_true, Function.comp, eqV, beq_iff_eq, decide_eq_true_eq]
  constructor
  · rintro ⟨y, hy, rfl⟩; exact hy
  · intro h; exact ⟨z, h, rfl⟩
end Ms
namespace Ms
open PySem PySem.Spec PyProof.Rows L2
/-! ### data keeps while the heap grows -/
mutual
theorem Dq.same {K : PySem.W.Frag} {m l : Addr} {H H' : Hp} (k : Same H H') : ∀ (d : PyData) (v : V), Dq K H m l v d → Dq K H' m l v d
  | .none, _, h => by cases h; exact .non
  | .bool b, _, h => by cases h; exact .bl b
  | .int i, _, h => by cases h; exact .int i
  | .str x, _, h => by cases h; exact .str x
  | .list ds, _, h => by
    cases h with
    | lst e n1 n2 t => exact .lst (k _ _ e) n1 n2 (DqAll.same k ds _ t)
  | .tuple ds, _, h => by
    cases h with
    | tup e t => exact .tup (Same.seqT k e) (DqAll.same k ds _ t)
  | .dict _, _, h => by
    cases h with
    | dct e n1 n2 => exact .dct (k _ _ e) n1 n2
theorem DqAll.same {K : PySem.W.Frag} {m l : Addr} {H H' : Hp} (k : Same H H') : ∀ (ds : List PyData) (vs : List V), DqAll K H m l vs ds → DqAll K H' m l vs ds
  | [], _, h => by cases h; exact .nil
  | d :: ds, _, h => by
    cases h with
    | cons h1 h2 => exact .cons (Dq.same k d _ h1) (DqAll.same k ds _ h2)
end
/-! ### comprehensions of two clauses -/
theorem lc2_it {J : It} {n : Nat} {G : Hp → Prop} {Y : Nat → Hp → V → Hp → Prop} (w : Walk J n G Y) {g : TG} {tt : TT} {wi1 : TI} {g1 : TG} {tt1 : TT} {te : TE} {vs vs1 : List Nat} {σ : L2.St} {H1 : Hp} {D : Addr} {Qd : Hp → Prop} (Pv : Nat → Hp → Prop)
    (h0 : Pv 0 (upd H1 D (.lst []))) (hG : ∀ i H, i ≤ n → Pv i H → G H)
    (hs : ∀ i x H H', i < n → Pv i H → Y i H x H' → g x (wipe σ vs) H' fun σ2 H2 => wipe σ2 vs = wipe σ vs ∧ tt σ2 H2 fun b H3 =>
      if b = true then wi1 σ2 H3 fun J1 H4 => ∃ W1 : Nat → Nat → Hp → Prop, (∃ m, W1 0 m H4) ∧ ∀ j k H, W1 j k H →
        (J1.stop j H ∧ Pv (i + 1) H) ∨ (J1.go j H ∧ ∃ Nx1 : Hp → Prop, (∀ H', Nx1 H' → ∃ k', k' < k ∧ W1 (j + 1) k' H') ∧ ∀ x H', J1.yld j H x H' → g1 x (wipe σ2 vs1) H' fun σ3 H5 => wipe σ3 vs1 = wipe σ2 vs1 ∧ tt1 σ3 H5 fun b H6 =>
          if b = true then te σ3 H6 fun y H7 => ∃ acc, H7 D = some (.lst acc) ∧ acc.length < sizeLine ∧ Nx1 (upd H7 D (.lst (acc ++ [y]))) else Nx1 H6)
      else Pv (i + 1) H3) (hd : ∀ H, Pv n H → Qd H) :
    ∃ W : Nat → Nat → Hp → Prop, (∃ m, W 0 m (upd H1 D (.lst []))) ∧ ∀ i m H, W i m H →
      (J.stop i H ∧ Qd H) ∨ (J.go i H ∧ ∃ Nx : Hp → Prop, (∀ H', Nx H' → ∃ m', m' < m ∧ W (i + 1) m' H') ∧ ∀ x H', J.yld i H x H' → g x (wipe σ vs) H' fun σ2 H2 => wipe σ2 vs = wipe σ vs ∧ tt σ2 H2 fun b H3 =>
        if b = true then wi1 σ2 H3 fun J1 H4 => ∃ W1 : Nat → Nat → Hp → Prop, (∃ m, W1 0 m H4) ∧ ∀ j k H, W1 j k H →
          (J1.stop j H ∧ Nx H) ∨ (J1.go j H ∧ ∃ Nx1 : Hp → Prop, (∀ H', Nx1 H' → ∃ k', k' < k ∧ W1 (j + 1) k' H') ∧ ∀ x H', J1.yld j H x H' → g1 x (wipe σ2 vs1) H' fun σ3 H5 => wipe σ3 vs1 = wipe σ2 vs1 ∧ tt1 σ3 H5 fun b H6 =>
            if b = true then te σ3 H6 fun y H7 => ∃ acc, H7 D = some (.lst acc) ∧ acc.length < sizeLine ∧ Nx1 (upd H7 D (.lst (acc ++ [y]))) else Nx1 H6)
        else Nx H3) := by
  refine ⟨fun i m H => i + m = n ∧ Pv i H, ⟨n, by omega, h0⟩, ?_⟩
  rintro i m H ⟨e, p⟩
  have q := hG i H (by omega) p
  by_cases hi : i < n
  · exact .inr ⟨w.goes i H hi q, Pv (i + 1), fun H' p' => ⟨n - (i + 1), by omega, by omega, p'⟩, fun x H' y => hs i x H H' hi p (w.yields i H x H' hi q y)⟩
  · have z : i = n := by omega
    subst z
    exact .inl ⟨w.stops H q, hd H p⟩
/-- the inner clause's walk -/
theorem lc_in {J : It} {n : Nat} {G : Hp → Prop} {Y : Nat → Hp → V → Hp → Prop} (w : Walk J n G Y) {g : TG} {tt : TT} {te : TE} {vs : List Nat} {σ : L2.St} {H4 : Hp} {D : Addr} {Qd : Hp → Prop} (Pv : Nat → Hp → Prop)
    (h0 : Pv 0 H4) (hG : ∀ i H, i ≤ n → Pv i H → G H)
    (hs : ∀ i x H H', i < n → Pv i H → Y i H x H' → g x (wipe σ vs) H' fun σ2 H2 => wipe σ2 vs = wipe σ vs ∧ tt σ2 H2 fun b H3 =>
      if b = true then te σ2 H3 fun y H4 => ∃ acc, H4 D = some (.lst acc) ∧ acc.length < sizeLine ∧ Pv (i + 1) (upd H4 D (.lst (acc ++ [y]))) else Pv (i + 1) H3) (hd : ∀ H, Pv n H → Qd H) :
    ∃ W : Nat → Nat → Hp → Prop, (∃ m, W 0 m H4) ∧ ∀ i m H, W i m H →
      (J.stop i H ∧ Qd H) ∨ (J.go i H ∧ ∃ Nx : Hp → Prop, (∀ H', Nx H' → ∃ m', m' < m ∧ W (i + 1) m' H') ∧ ∀ x H', J.yld i H x H' → g x (wipe σ vs) H' fun σ2 H2 => wipe σ2 vs = wipe σ vs ∧ tt σ2 H2 fun b H3 =>
        if b = true then te σ2 H3 fun y H4 => ∃ acc, H4 D = some (.lst acc) ∧ acc.length < sizeLine ∧ Nx (upd H4 D (.lst (acc ++ [y]))) else Nx H3) := by
  refine ⟨fun i m H => i + m = n ∧ Pv i H, ⟨n, by omega, h0⟩, ?_⟩
  rintro i m H ⟨e, p⟩
  have q := hG i H (by omega) p
  by_cases hi : i < n
  · exact .inr ⟨w.goes i H hi q, Pv (i + 1), fun H' p' => ⟨n - (i + 1), by omega, by omega, p'⟩, fun x H' y => hs i x H H' hi p (w.yields i H x H' hi q y)⟩
  · have z : i = n := by omega
    subst z
    exact .inl ⟨w.stops H q, hd H p⟩
/-! ### pairs of a text and an int, wherever they stand -/
def PrT (K : PySem.W.Frag) (H : Hp) (v : V) (q : Str × Int) : Prop := ∃ a, v = .ref a ∧ SqT K H a [.str q.1, .int q.2]
inductive PrTs (K : PySem.W.Frag) (H : Hp) : List V → List (Str × Int) → Prop
  | nil : PrTs K H [] []
  | cons {v : V} {vs : List V} {q : Str × Int} {qs : List (Str × Int)} : PrT K H v q → PrTs K H vs qs → PrTs K H (v :: vs) (q :: qs)
section
variable {K : PySem.W.Frag} {H H' : Hp}
theorem PrTs.same (s : Same H H') {vs : List V} {qs : List (Str × Int)} (p : PrTs K H vs qs) : PrTs K H' vs qs := by
  induction p with
  | nil => exact .nil
  | cons h _ ih =>
    obtain ⟨a, e, h⟩ := h
    exact .cons ⟨a, e, Same.seqT s h⟩ ih
theorem PrTs.len {vs : List V} {qs : List (Str × Int)} (p : PrTs K H vs qs) : vs.length = qs.length := by
  induction p with
  | nil => rfl
  | cons _ _ ih => simp [ih]
theorem PrTs.get {vs : List V} {qs : List (Str × Int)} (p : PrTs K H vs qs) : ∀ {i : Nat} {v : V}, vs[i]? = some v → ∃ q, qs[i]? = some q ∧ PrT K H v q := by
  induction p with
  | nil => intro i v h; simp at h
  | cons h' _ ih =>
    intro i b hb
    cases i with
    | zero => simp at hb; subst hb; exact ⟨_, rfl, h'⟩
    | succ i => exact ih (by simpa using hb)
theorem PrTs.snoc {vs : List V} {qs : List (Str × Int)} {v : V} {q : Str × Int} (p : PrTs K H vs qs) (h : PrT K H v q) : PrTs K H (vs ++ [v]) (qs ++ [q]) := by
  induction p with
  | nil => exact .cons h .nil
  | cons h' _ ih => exact .cons h' ih
end
/-! ### rows: tuples of ints, each with its own address -/
inductive Rws (H : Hp) : List Addr → List (List Int) → Prop
  | nil : Rws H [] []
  | cons {a : Addr} {as : List Addr} {r : List Int} {rs : List (List Int)} : H a = some (.tup (r.map V.int)) → Rws H as rs → Rws H (a :: as) (r :: rs)
section
variable {H H' : Hp}
theorem Rws.same {as : List Addr} {rs : List (List Int)} (s : ∀ b o, b ∈ as → H b = some o → H' b = some o) (p : Rws H as rs) : Rws H' as rs := by
  induction p with
  | nil => exact .nil
  | cons h _ ih => exact .cons (s _ _ (List.mem_cons_self ..) h) (ih fun b o hb => s b o (List.mem_cons_of_mem _ hb))
theorem Rws.snoc {as : List Addr} {rs : List (List Int)} {a : Addr} {r : List Int} (p : Rws H as rs) (h : H a = some (.tup (r.map V.int))) : Rws H (as ++ [a]) (rs ++ [r]) := by
  induction p with
  | nil => exact .cons h .nil
  | cons h' _ ih => exact .cons h' ih
theorem Rws.length {as : List Addr} {rs : List (List Int)} (p : Rws H as rs) : as.length = rs.length := by
  induction p with
  | nil => rfl
  | cons _ _ ih => simp [ih]
theorem Rws.get {as : List Addr} {rs : List (List Int)} (p : Rws H as rs) : ∀ {i : Nat} {a : Addr}, as[i]? = some a → ∃ r, rs[i]? = some r ∧ H a = some (.tup (r.map V.int)) := by
  induction p with
  | nil => intro i a h; simp at h
  | cons h' _ ih =>
    intro i b hb
    cases i with
    | zero => simp at hb; subst hb; exact ⟨_, rfl, h'⟩
    | succ i => exact ih (by simpa using hb)
end
/-! ### all standings, by the settings -/
/-- each row with each value behind it -/
def widen (rs : List (List Int)) (n : Nat) : List (List Int) := rs.flatMap fun r => (List.range n).map fun (v : Nat) => r ++ [(v : Int)]
def grid (qs : List (Str × Int)) : List (List Int) := qs.foldl (fun rs q => widen rs (q.2 + 1).toNat) [[]]
theorem widen_len (rs : List (List Int)) (n : Nat) : (widen rs n).length = rs.length * n := by
  unfold widen
  induction rs with
  | nil => simp
  | cons r rs ih => rw [List.flatMap_cons, List.length_append, ih, List.length_map, List.length_range, List.length_cons, Nat.succ_mul, Nat.add_comm]
end Ms
namespace Ms
open PySem PySem.Spec PyProof.Rows L2
/-! ### the package's settings: is_int, is_name, is_setting, names_of, grid_of -/
structure TxtP (mg : Str → Option Value) (fI fN fS fA fG : Addr) : Prop where
  isi : mg "isinstance" = none
  int : mg "int" = none
  bool : mg "bool" = none
  str : mg "str" = none
  tuple : mg "tuple" = none
  len : mg "len" = none
  all : mg "all" = none
  range : mg "range" = none
  enumerate : mg "enumerate" = none
  mS : ∃ t, mg "MOST_SETTINGS" = some (.int 3 t)
  mV : ∃ t, mg "MOST_VALUE" = some (.int 3 t)
  mT : ∃ t, mg "MOST_STANDINGS" = some (.int 12 t)
  lN : ∃ t, mg "LONGEST_NAME" = some (.int 8 t)
  gI : mg "is_int" = some (.ref fI)
  gN : mg "is_name" = some (.ref fN)
  gS : mg "is_setting" = some (.ref fS)
  gA : mg "names_of" = some (.ref fA)
  gG : mg "grid_of" = some (.ref fG)
def isInt (d : PyData) : Bool := match d with | .int _ => true | _ => false
section
variable {P : Program} {w : World} {K : PySem.W.Frag} {mg : Str → Option Value} {base : Heap} {fI fN fS fA fG : Addr}
theorem scPi : FnScope ["thing"] ["thing"] (defScope sPInt) := ⟨rfl, rfl, rfl, by decide +kernel, rfl, by decide +kernel, by decide +kernel⟩
def spPInt (K : PySem.W.Frag) : Sp := fun vs H Q _ => ∃ (m l : Addr) (v : V) (d : PyData), vs = [v] ∧ Dq K H m l v d ∧ Q (.bl (isInt d)) H
theorem ok_pint {f : Addr} {fd : FuncData} (F : Fun K "is_int" "is_int" sPInt f fd) (T : TxtP mg fI fN fS fA fG) : FnOk P w K mg base CX0 1 f fd ["thing"] (spPInt K) := by
  refine F.ok scPi (fun vs H Q E h => ?_) (fun cdv A outer s H vs Q E hr h => ?_)
  · obtain ⟨m, l, v, d, rfl, _⟩ := h
    rfl
  · obtain ⟨m, l, v, d, rfl, hd, q⟩ := h
    refine ⟨_, pss_one (ps_ret (pe_and (pe_callB call_isi (by rfl) T.isi PyProof.Rows.boot_isinstance (pa_cons (pv 0) (pa_cons (pe_bltn (v := .ty "int") (u := .type "int") (by rfl) T.int (by decide +kernel) rfl) pa_nil)))
      (pe_one (pe_not (pe_callB call_isi (by rfl) T.isi PyProof.Rows.boot_isinstance (pa_cons (pv 0) (pa_cons (pe_bltn (v := .ty "bool") (u := .type "bool") (by rfl) T.bool (by decide +kernel) rfl) pa_nil))))))), ?_⟩
    refine ⟨_, rfl, v, .ty "int", _, _, _, rfl, .ty _, hd.ty, isi_int K d, _, rfl, ?_⟩
    cases d with
    | int j =>
      cases hd
      exact ifT rfl ⟨_, rfl, .int j, .ty "bool", _, _, _, rfl, .ty _, .base (.int j), isi_bool K (.int j), _, rfl, q⟩
    | bool j =>
      cases hd
      exact ifT rfl ⟨_, rfl, .bl j, .ty "bool", _, _, _, rfl, .ty _, .base (.bl j), isi_bool K (.bool j), _, rfl, q⟩
    | _ => exact ifF rfl q
def lowB (c : Nat) : Bool := decide (97 ≤ c) && decide (c ≤ 122)
theorem lowB_alpha (c : Nat) : decide (c ∈ alpha.cps.toList) = lowB c := by
  rw [alpha_list, Bool.eq_iff_iff]
  simp only [decide_eq_true_eq, lowB, Bool.and_eq_true, List.mem_cons, List.mem_nil_iff, or_false]
  omega
theorem low_alpha : ∀ c, c < 128 → lowB c = true → Unicode.isAlpha c = true := by decide +kernel
theorem low_lower : ∀ c, c < 128 → lowB c = true → Unicode.isLower c = true := by decide +kernel
theorem low_upper : ∀ c, c < 128 → lowB c = true → (Unicode.isUpper c || Unicode.isTitle c) = false := by decide +kernel
theorem alpha_low : ∀ c, c < 128 → Unicode.isAlpha c = true → (Unicode.isUpper c || Unicode.isTitle c) = false → lowB c = true := by decide +kernel
theorem low_all (z : Str) : (Txt.isascii z && (Txt.isalpha z && Txt.islower z)) = (decide (1 ≤ z.length) && z.cps.toList.all lowB) := by
  have e1 : Txt.isascii z = z.cps.toList.all (fun c => decide (c < 128)) := by unfold Txt.isascii; rw [← Array.all_toList]
  have e2 : Txt.isalpha z = (decide (1 ≤ z.length) && z.cps.toList.all Unicode.isAlpha) := by unfold Txt.isalpha; rw [← Array.all_toList]; rfl
  have e3 : Txt.islower z = (z.cps.toList.any Unicode.isLower && !z.cps.toList.any fun c => Unicode.isUpper c || Unicode.isTitle c) := by unfold Txt.islower; rw [← Array.any_toList, ← Array.any_toList]
  have ln : z.length = z.cps.toList.length := by rw [Array.length_toList]; rfl
  rw [e1, e2, e3, ln]
  generalize z.cps.toList = l
  rw [Bool.eq_iff_iff]
  constructor
  · intro h
    simp only [Bool.and_eq_true, List.all_eq_true, Bool.not_eq_true', decide_eq_true_eq] at h ⊢
    obtain ⟨ha, ⟨h1, hb⟩, _, hu⟩ := h
    refine ⟨h1, fun c hc => alpha_low c (ha c hc) (hb c hc) ?_⟩
    cases hx : (Unicode.isUpper c || Unicode.isTitle c) with
    | false => rfl
    | true =>
      have : (l.any fun c => Unicode.isUpper c || Unicode.isTitle c) = true := List.any_eq_true.mpr ⟨c, hc, hx⟩
      rw [this] at hu
      cases hu
  · intro h
    simp only [Bool.and_eq_true, List.all_eq_true, Bool.not_eq_true', decide_eq_true_eq] at h ⊢
    obtain ⟨h1, hl⟩ := h
    have lt : ∀ c ∈ l, c < 128 := fun c hc => by
      have := hl c hc
      simp only [lowB, Bool.and_eq_true, decide_eq_true_eq] at this
      omega
    refine ⟨lt, ⟨h1, fun c hc => low_alpha c (lt c hc) (hl c hc)⟩, ?_, ?_⟩
    · match l, h1 with
      | c :: r, _ => exact List.any_eq_true.mpr ⟨c, List.mem_cons_self, low_lower c (lt c List.mem_cons_self) (hl c List.mem_cons_self)⟩
    · rw [List.any_eq_false]
      intro c hc
      rw [low_upper c (lt c hc) (hl c hc)]
      decide
abbrev NPn : List Str := ["thing"]
theorem scPn : FnScope NPn ["thing"] (defScope sPName) := ⟨rfl, rfl, rfl, by decide +kernel, rfl, by decide +kernel, by decide +kernel⟩
theorem ok_pname {f : Addr} {fd : FuncData} (F : Fun K "is_name" "is_name" sPName f fd) (T : TxtP mg fI fN fS fA fG) : FnOk P w K mg base CX0 1 f fd ["thing"] (spName K) := by
  refine F.ok scPn (fun vs H Q E h => ?_) (fun cdv A outer s H vs Q E hr h => ?_)
  · obtain ⟨m, l, v, d, rfl, _⟩ := h
    rfl
  · obtain ⟨m, l, v, d, rfl, hd, hz, q⟩ := h
    obtain ⟨tl, gl⟩ := T.lN
    refine ⟨_, pss_cons (ps_if (PW.pt (pw_or (pt_not (pt_val (pe_callB call_isi (by rfl) T.isi PyProof.Rows.boot_isinstance (pa_cons (pv 0) (pa_cons (pe_bltn (v := .ty "str") (u := .type "str") (by rfl) T.str (by decide +kernel) rfl) pa_nil)))))
        (pw_or1 (pt_cmpR op_gt (pe_callB call_len (by rfl) T.len PySem.boot_len (pa_cons (pv 0) pa_nil)) (pe_glob (v := .int 8) rfl gl ⟨_, rfl⟩) (nomark _))))) (pss_one (ps_ret pe_bl)) pss_nil)
      (pss_one (ps_ret (pe_and (pe_m0 PySem.F.slot_str_isascii PySem.F.type_str_isascii mt_isascii (pv 0)) (pe_and (pe_m0 PySem.F.slot_str_isalpha PySem.F.type_str_isalpha mt_isalpha (pv 0)) (pe_one (pe_m0 PySem.F.slot_str_islower PySem.F.type_str_islower mt_islower (pv 0))))))), ?_⟩
    refine ⟨_, rfl, v, .ty "str", _, _, _, rfl, .ty _, hd.ty, isi_str K d, _, rfl, ?_⟩
    cases d with
    | str z =>
      cases hd
      have zk := hz z rfl
      have zs : z.length ≤ sizeLine := by rw [sizeLine_eq]; have := zk.1; omega
      have en : isName (.str z) = (decide (z.length ≤ 8) && (Txt.isascii z && (Txt.isalpha z && Txt.islower z))) := by
        rw [low_all]
        show ((decide (1 ≤ z.length) && decide (z.length ≤ 8)) && z.cps.toList.all fun c => decide (c ∈ alpha.cps.toList)) = _
        have ef : (fun c => decide (c ∈ alpha.cps.toList)) = lowB := funext lowB_alpha
        rw [ef]
        cases decide (1 ≤ z.length) <;> cases decide (z.length ≤ 8) <;> rfl
      refine ifF rfl ?_
      refine ⟨_, rfl, .str z, z.length, rfl, ⟨zs, rfl⟩, (z.length : Int), 8, rfl, rfl, _, rfl, ite_b (fun e8 => ?_) (fun e8 => ?_)⟩
      · have : decide (z.length ≤ 8) = false := by
          have := of_decide_eq_true e8
          exact decide_eq_false (by omega)
        rw [en, this] at q
        exact q H (fun _ _ e => e)
      · have : decide (z.length ≤ 8) = true := by
          have := of_decide_eq_false e8
          exact decide_eq_true (by omega)
        rw [en, this, Bool.true_and] at q
        refine ⟨_, rfl, ⟨_, rfl⟩, z, rfl, rfl, trivial, _, rfl, ite_b (fun ea => ?_) (fun ea => ?_)⟩
        · rw [ea, Bool.true_and] at q
          refine ⟨_, rfl, ⟨_, rfl⟩, z, rfl, rfl, trivial, _, rfl, ite_b (fun eb => ?_) (fun eb => ?_)⟩
          · rw [eb, Bool.true_and] at q
            exact ⟨_, rfl, ⟨_, rfl⟩, z, rfl, rfl, trivial, q H (fun _ _ e => e)⟩
          · rw [eb] at q
            exact q H (fun _ _ e => e)
        · rw [ea] at q
          exact q H (fun _ _ e => e)
    | _ => exact ifT rfl (ifT rfl (q H (fun _ _ e => e)))
/-! is_setting -/
abbrev NPs : List Str := ["thing", "name", "most"]
theorem scPs : FnScope NPs ["thing"] (defScope sPSet) := ⟨rfl, rfl, rfl, by decide +kernel, rfl, by decide +kernel, by decide +kernel⟩
theorem isWhole_int (d : PyData) (lo hi : Int) (h : isInt d = false) : isWhole d lo hi = false := by cases d <;> first | rfl | cases h
def spPSet (K : PySem.W.Frag) : Sp := fun vs H Q _ => ∃ (m l : Addr) (v : V) (d : PyData) (B b : Nat), vs = [v] ∧ Dq K H m l v d ∧ Gd B 100000 b d ∧ ∀ H', Same H H' → Q (.bl (oneD d).isSome) H'
theorem ok_pset {f : Addr} {fd fdI fdN : FuncData} (F : Fun K "is_setting" "is_setting" sPSet f fd) (T : TxtP mg fI fN fS fA fG) (FI : Fun K "is_int" "is_int" sPInt fI fdI) (bI : Binds K fdI ["thing"] [])
    (FN : Fun K "is_name" "is_name" sPName fN fdN) (bN : Binds K fdN ["thing"] []) : FnOk P w K mg base CX0 2 f fd ["thing"] (spPSet K) := by
  have GI : FnOk P w K mg base CX0 1 fI fdI ["thing"] (spPInt K) := ok_pint FI T
  have GN : FnOk P w K mg base CX0 1 fN fdN ["thing"] (spName K) := ok_pname FN T
  refine F.ok scPs (fun vs H Q E h => ?_) (fun cdv A outer s H vs Q E hr h => ?_)
  · obtain ⟨m, l, v, d, B, b, rfl, _⟩ := h
    rfl
  · obtain ⟨m, l, v, d, B, b, rfl, hd, gd, q⟩ := h
    obtain ⟨tv, gv⟩ := T.mV
    refine ⟨_, pss_cons (ps_if (PW.pt (pw_or (pt_not (pt_val (pe_callB call_isi (by rfl) T.isi PyProof.Rows.boot_isinstance (pa_cons (pv 0) (pa_cons (pe_bltn (v := .ty "tuple") (u := .type "tuple") (by rfl) T.tuple (by decide +kernel) rfl) pa_nil)))))
        (pw_or1 (pt_cmpR op_ne (pe_callB call_len (by rfl) T.len PySem.boot_len (pa_cons (pv 0) pa_nil)) pe_int (nomark _))))) (pss_one (ps_ret pe_bl)) pss_nil)
      (pss_cons (ps_asg (pv 0) (pg_tup rfl (pgs_cons (pg_name (i := 1) scPs.nd rfl (Or.inl rfl)) (pgs_cons (pg_name (i := 2) scPs.nd rfl (Or.inl rfl)) pgs_nil))))
      (pss_one (ps_ret (pe_and (pe_call GN hr rfl T.gN FN.kp bN .nil pass0 (pa_cons (pv 1) pa_nil)) (pe_and (pe_call GI hr rfl T.gI FI.kp bI .nil pass0 (pa_cons (pv 2) pa_nil)) (pe_one (pe_chain op_le op_le pe_int (pv 2) (pe_glob (v := .int 3) rfl gv ⟨_, rfl⟩)))))))), ?_⟩
    refine ⟨_, rfl, v, .ty "tuple", _, _, _, rfl, .ty _, hd.ty, isi_tup K d, _, rfl, ?_⟩
    cases d with
    | tuple es =>
      cases hd with
      | tup hq hy =>
        rename_i a ys
        have ly := hy.len
        refine ifF rfl ⟨_, rfl, .ref a, ys.length, rfl, .inr ⟨ys, hq, rfl⟩, rfl, _, rfl, ite_b (fun e => ?_) (fun e => ?_)⟩
        · have : oneD (.tuple es) = none := oneD_len (fun z => by
            rw [ly, z] at e
            exact absurd e (by decide))
          rw [this] at q
          exact q H (Same.refl H)
        have l2 : ys.length = 2 := by
          have q1 : decide (V.int ((ys.length : Nat) : Int) = V.int 2) = true := by simpa using e
          have q2 := of_decide_eq_true q1
          have q3 : ((ys.length : Nat) : Int) = 2 := by injection q2
          omega
        obtain ⟨y0, y1, rfl⟩ : ∃ y0 y1, ys = [y0, y1] := by
          match ys, l2 with
          | [y0, y1], _ => exact ⟨y0, y1, rfl⟩
        obtain ⟨d0, d1, rfl⟩ : ∃ d0 d1, es = [d0, d1] := by
          match es, ly with
          | [d0, d1], _ => exact ⟨d0, d1, rfl⟩
        obtain ⟨q0, q1⟩ : Dq K H m l y0 d0 ∧ Dq K H m l y1 d1 := by
          cases hy with
          | cons h0 h1 => cases h1 with | cons h1 _ => exact ⟨h0, h1⟩
        obtain ⟨c2, eb2, g2⟩ := Gd.untup gd
        have w0 : ∀ z, d0 = .str z → sOk 100000 z := fun z ez => by
          have gz := g2.at (i := 0) (d := d0) rfl
          rw [ez] at gz
          have ww := g2.wt
          refine gz.unstr.mono ?_
          rw [ez] at ww
          simp only [PyData.weightAll, PyData.weight] at ww ⊢
          omega
        refine ⟨_, rfl, a, _, rfl, hq, rfl, _, _, rfl, _, _, rfl, rfl, ?_⟩
        refine ⟨_, rfl, m, l, y0, d0, rfl, q0, w0, fun H3 s3 => ⟨_, rfl, ite_b (fun e => ?_) (fun e => ?_)⟩⟩
        · have hn : isName d0 = true := e
          refine ⟨_, rfl, m, l, y1, d1, rfl, Dq.same s3 d1 y1 q1, _, rfl, ite_b (fun e => ?_) (fun e => ?_)⟩
          · obtain ⟨j, rfl⟩ : ∃ j, d1 = .int j := by
              cases d1 <;> first | exact ⟨_, rfl⟩ | cases e
            cases q1
            refine ⟨_, rfl, 1, j, rfl, rfl, _, rfl, ite_b (fun e => ⟨j, 3, rfl, rfl, ?_⟩) (fun e => ?_)⟩
            · have ew : (oneD (.tuple [d0, .int j])).isSome = decide (j ≤ 3) := by
                cases hw : isWhole (.int j) 1 3 with
                | true =>
                  obtain ⟨z, c, _, ec, c1, c3, eo⟩ := oneD_ok hn hw
                  cases ec
                  rw [eo]; simp [c3]
                | false =>
                  rw [oneD_whole hw]
                  have z : (decide (1 ≤ j) && decide (j ≤ 3)) = false := hw
                  rw [e, Bool.true_and] at z
                  rw [z]; rfl
              rw [ew] at q
              exact q _ s3
            · have hw : isWhole (.int j) 1 3 = false := by show (decide (1 ≤ j) && decide (j ≤ 3)) = false; rw [e]; rfl
              rw [oneD_whole hw] at q
              exact q _ s3
          · rw [oneD_whole (isWhole_int d1 1 3 e)] at q
            exact q _ s3
        · rw [oneD_name e] at q
          exact q _ s3
    | _ => exact ifT rfl (q H (Same.refl H))
/-! names_of -/
abbrev NPa : List Str := ["settings", "name", "most"]
theorem scPa : FnScope NPa ["settings"] (defScope sPNames) := ⟨rfl, rfl, rfl, by decide +kernel, rfl, by decide +kernel, by decide +kernel⟩
def spPNames (K : PySem.W.Frag) : Sp := fun vs H Q _ => ∃ (a : Addr) (xs : List V) (qs : List (Str × Int)), vs = [.ref a] ∧ SqT K H a xs ∧ PrTs K H xs qs ∧ qs.length ≤ 900 ∧
  ∀ D, H D = none → ∀ H', Same H H' → H' D = some (.lst ((qs.map (·.1)).map V.str)) → Q (.ref D) H'
theorem ok_pnames {f : Addr} {fd : FuncData} (F : Fun K "names_of" "names_of" sPNames f fd) : FnOk P w K mg base CX0 1 f fd ["settings"] (spPNames K) := by
  refine F.ok scPa (fun vs H Q E h => ?_) (fun cdv A outer s H vs Q E hr h => ?_)
  · obtain ⟨a, xs, qs, rfl, _⟩ := h
    rfl
  · obtain ⟨a, xs, qs, rfl, hs, hp, hl, q⟩ := h
    refine ⟨_, pss_one (ps_ret (pe_lc (own := [("name", 1), ("most", 2)]) (g := gTup K 2 (gCons (gName 1) (gCons (gName 2) gNil))) (by rfl) scPa.nd (pi_tup (pv 0)) (blkOk_by (own := [("name", 1), ("most", 2)]) (N := NPa) (sc := defScope sPNames) (by decide +kernel))
        (fun _ _ _ _ _ => pg_tup rfl (pgs_cons (pg_name (i := 1) scPa.nd rfl (Or.inl rfl)) (pgs_cons (pg_name (i := 2) scPa.nd rfl (Or.inl rfl)) pgs_nil))) (fun _ _ _ _ _ => pts_nil) (fun _ _ _ _ _ => pv 1))), ?_⟩
    have ll := hp.len
    refine ⟨_, rfl, a, rfl, ⟨_, hs⟩, fun D hD => ?_⟩
    refine lc_it (walk_tup (xs := xs)) (fun i H3 => H3 = upd H D (.lst (((qs.take i).map (·.1)).map V.str))) rfl (fun i H3 _ e3 => by rw [e3]; exact Same.seqT (Same.upd hD) hs) ?_ ?_
    · rintro i x H3 H4 hi e3 ⟨rfl, hx⟩
      obtain ⟨qq, hq, b, rfl, hb⟩ := hp.get hx
      have hb3 : SqT K H4 b [.str qq.1, .int qq.2] := by rw [e3]; exact Same.seqT (Same.upd hD) hb
      have ti : qs.take (i + 1) = qs.take i ++ [qq] := by rw [List.take_succ, hq]; rfl
      refine ⟨b, _, rfl, hb3, rfl, _, _, rfl, _, _, rfl, rfl, rfl, tyes ⟨_, rfl, _, by rw [e3]; exact upd_same, small1000 (by rw [List.length_map, List.length_map, List.length_take]; omega), ?_⟩⟩
      show upd H4 D _ = _
      rw [e3, upd_upd, ti, List.map_append, List.map_append]
      rfl
    · rintro H3 e3
      rw [List.take_of_length_le (by omega)] at e3
      exact q D hD H3 (e3 ▸ Same.upd hD) (by rw [e3, upd_same])
/-! grid_of -/
abbrev NPg : List Str := ["settings", "rows", "name", "most", "row", "value"]
theorem scPg : FnScope NPg ["settings"] (defScope sPGrid) := ⟨rfl, rfl, rfl, by decide +kernel, rfl, by decide +kernel, by decide +kernel⟩
def spPGrid (K : PySem.W.Frag) : Sp := fun vs H Q _ => ∃ (a : Addr) (xs : List V) (qs : List (Str × Int)), vs = [.ref a] ∧ SqT K H a xs ∧ PrTs K H xs qs ∧ qs.length ≤ 3 ∧ (∀ q ∈ qs, 1 ≤ q.2 ∧ q.2 ≤ 3) ∧
  ∀ D as H', H D = none → Same H H' → H' D = some (.lst (as.map V.ref)) → Rws H' as (grid qs) → (∀ b ∈ as, H b = none) → Q (.ref D) H'
theorem fold_row {k : Nat} : ∀ (qs : List (Str × Int)) (rs : List (List Int)) (k : Nat), (∀ r ∈ rs, r.length = k) → ∀ r ∈ qs.foldl (fun rs q => widen rs (q.2 + 1).toNat) rs, r.length = k + qs.length
  | [], rs, k, h => fun r hr => h r hr
  | q :: qs, rs, k, h => fun r hr => by
    have z := fold_row (k := k) qs (widen rs (q.2 + 1).toNat) (k + 1) (fun r hr => by
      unfold widen at hr
      obtain ⟨y, hy, hr⟩ := List.mem_flatMap.mp hr
      obtain ⟨v, _, rfl⟩ := List.mem_map.mp hr
      rw [List.length_append, h y hy]; rfl) r hr
    rw [z, List.length_cons]; omega
theorem grid_row (qs : List (Str × Int)) : ∀ r ∈ grid qs, r.length = qs.length := fun r hr => by
  have z := fold_row (k := 0) qs [[]] 0 (fun r hr => by rw [List.mem_singleton.mp hr]; rfl) r hr
  rw [z]; omega
structure Acc (H0 H1 H : Hp) (D : Addr) (as : List Addr) (rs : List (List Int)) : Prop where
  rws : Rws H as rs
  far : ∀ b ∈ as, b ≠ D ∧ H0 b = none
  at_ : H D = some (.lst (as.map V.ref))
  same : Same H1 H
theorem Acc.more {H0 H1 H : Hp} {D p : Addr} {as : List Addr} {rs : List (List Int)} {r : List Int} (A : Acc H0 H1 H D as rs) (s : Same H0 H1) (hD : H1 D = none) (hp : H p = none) :
    Acc H0 H1 (upd (upd H p (.tup (r.map V.int))) D (.lst (as.map V.ref ++ [.ref p]))) D (as ++ [p]) (rs ++ [r]) := by
  have nD : p ≠ D := fun e => by rw [e, A.at_] at hp; cases hp
  have sp : Same H (upd H p (.tup (r.map V.int))) := Same.upd hp
  refine ⟨Rws.snoc (Rws.same (fun b o hb e => ?_) A.rws) ?_, fun b hb => ?_, ?_, fun b o e => ?_⟩
  · rw [upd_ne (A.far b hb).1]; exact sp _ _ e
  · rw [upd_ne nD, upd_same]
  · rcases List.mem_append.mp hb with hb | hb
    · exact A.far b hb
    · rw [List.mem_singleton.mp hb]
      exact ⟨nD, Same.free s (Same.free A.same hp)⟩
  · rw [upd_same, List.map_append]; rfl
  · have nb : b ≠ D := ne_of_none e hD
    rw [upd_ne nb]; exact sp _ _ (A.same _ _ e)
theorem widen_take {rs : List (List Int)} {n i : Nat} {r : List Int} (h : rs[i]? = some r) : widen (rs.take (i + 1)) n = widen (rs.take i) n ++ (List.range n).map fun (v : Nat) => r ++ [(v : Int)] := by
  unfold widen
  rw [List.take_succ, h, List.flatMap_append]
  simp
theorem range_more {n : Nat} {r : List Int} : ((List.range (n + 1)).map fun (v : Nat) => r ++ [(v : Int)]) = ((List.range n).map fun (v : Nat) => r ++ [(v : Int)]) ++ [r ++ [(n : Int)]] := by
  rw [List.range_succ, List.map_append]; rfl
theorem ok_pgrid {f : Addr} {fd : FuncData} (F : Fun K "grid_of" "grid_of" sPGrid f fd) (T : TxtP mg fI fN fS fA fG) : FnOk P w K mg base CX0 1 f fd ["settings"] (spPGrid K) := by
  refine F.ok scPg (fun vs H Q E h => ?_) (fun cdv A outer s H vs Q E hr h => ?_)
  · obtain ⟨a, xs, qs, rfl, _⟩ := h
    rfl
  · obtain ⟨a, xs, qs, rfl, hs, hp, hl, hb, q⟩ := h
    refine ⟨_, pss_cons (ps_set (i := 1) scPg.nd rfl (by first | exact Or.inl rfl | exact Or.inr rfl) (pe_lst (pa_cons (pe_tup pa_nil) pa_nil)))
      (pss_cons (ps_for PassesOwn.never rfl (pi_tup (pv 0)) (pg_tup rfl (pgs_cons (pg_name (i := 2) scPg.nd rfl (by first | exact Or.inl rfl | exact Or.inr rfl)) (pgs_cons (pg_name (i := 3) scPg.nd rfl (by first | exact Or.inl rfl | exact Or.inr rfl)) pgs_nil)))
        (pss_one (ps_setLc2 (i := 1) (own := [("row", 4), ("value", 5)]) (vs1 := [5]) (g := gName 4) (g1 := gName 5) (tt := tYes) (tt1 := tYes) (te := tTup (StX.tStar K (tVar 4) (tCons (tVar 5) tNil))) (by rfl) scPg.nd rfl rfl (sw_true rfl rfl rfl (by decide +kernel)) (pi_list (pv 1)) (blkOk_by (own := [("row", 4), ("value", 5)]) (N := NPg) (sc := defScope sPGrid) (by decide +kernel)) (by decide)
          (fun _ _ _ _ _ => pg_name (i := 4) scPg.nd rfl (by first | exact Or.inl rfl | exact Or.inr rfl)) (fun _ _ _ _ _ => pts_nil) (fun _ _ _ _ _ => pi_range1 (by rfl) T.range (pa_cons (pe_op op_add (pv 3) pe_int) pa_nil))
          (fun _ _ _ _ _ => pg_name (i := 5) scPg.nd rfl (by first | exact Or.inl rfl | exact Or.inr rfl)) (fun _ _ _ _ _ => pts_nil) (fun _ _ _ _ _ => pe_tup (StX.pa_star (pv 4) (pa_cons (pv 5) pa_nil))))))
      (pss_one (ps_ret (pv 1)))), ?_⟩
    have ll := hp.len
    refine ⟨Nat.zero_le _, fun p0 h0 => ⟨(by show 1 ≤ sizeLine; decide), fun R0 hR0 => ?_⟩⟩
    have s0 : Same H (upd H p0 (.tup [])) := Same.upd h0
    have s1 : Same H (upd (upd H p0 (.tup [])) R0 (.lst [.ref p0])) := s0.trans (Same.upd hR0)
    have nR0 : p0 ≠ R0 := fun e => by rw [← e, upd_same] at hR0; cases hR0
    refine ⟨_, rfl, a, rfl, ⟨_, Same.seqT s1 hs⟩, ?_⟩
    have tk1 : ∀ {i : Nat} {qq : Str × Int}, qs[i]? = some qq → grid (qs.take (i + 1)) = widen (grid (qs.take i)) (qq.2 + 1).toNat := fun {i qq} hq => by
      unfold grid
      rw [List.take_succ, hq, List.foldl_append]
      rfl
    refine for_it (walk_tup (xs := xs)) (fun i σ H2 => ∃ (R : Addr) (as : List Addr) (v2 v3 : Option V), σ = [some (.ref a), some (.ref R), v2, v3, none, none] ∧ Same H H2 ∧ H R = none ∧ H2 R = some (.lst (as.map V.ref)) ∧ Rws H2 as (grid (qs.take i)) ∧ (∀ b ∈ as, H b = none) ∧ as.length ≤ 4 ^ i)
      ⟨R0, [p0], none, none, rfl, s1, Same.free s0 hR0, upd_same, ?_, ?_, Nat.le_refl _⟩ (fun i σ H2 _ ⟨R, as, v2, v3, _, s2, _⟩ => Same.seqT s2 hs) ?_ ?_
    · rw [List.take_zero]
      refine .cons ?_ .nil
      rw [upd_ne nR0, upd_same]; rfl
    · intro b hb
      rw [List.mem_singleton.mp hb]; exact h0
    · rintro i x σ H2 H3 hi ⟨R, as, v2, v3, rfl, s2, hR, gR, rw2, far, al⟩ ⟨rfl, hx⟩
      obtain ⟨qq, hq, b, rfl, hb2⟩ := hp.get hx
      have hqb := hb qq (List.mem_of_getElem? hq)
      have i3 : i < 3 := by omega
      have a16 : as.length ≤ 16 := Nat.le_trans al (by
        match i, i3 with
        | 0, _ => decide
        | 1, _ => decide
        | 2, _ => decide)
      have rl := rw2.length
      obtain ⟨rs, ers⟩ : ∃ rs, rs = grid (qs.take i) := ⟨_, rfl⟩
      rw [← ers] at rw2 rl
      obtain ⟨n, en⟩ : ∃ n : Nat, n = (qq.2 + 1).toNat := ⟨_, rfl⟩
      have n4 : n ≤ 4 := by omega
      refine ⟨b, _, rfl, Same.seqT s2 hb2, rfl, _, _, rfl, _, _, rfl, rfl, ?_⟩
      refine ⟨_, rfl, R, rfl, ⟨_, SqL.of gR⟩, fun D hD => ?_⟩
      have sD : Same H3 (upd H3 D (.lst [])) := Same.upd hD
      refine lc2_it (walk_list (xs := as.map V.ref)) (fun k H4 => ∃ as', Acc H H3 H4 D as' (widen (rs.take k) n)) ⟨[], .nil, (fun b hb => nomatch hb), upd_same, sD⟩ (fun k H4 _ ⟨as', A⟩ => SqL.of (A.same _ _ gR)) ?_ ?_
      · rintro k x H4 H5 hk ⟨as', A⟩ ⟨rfl, hxk⟩
        have hk' : k < as.length := by rw [List.length_map] at hk; exact hk
        obtain ⟨bk, hbk⟩ : ∃ bk, as[k]? = some bk := ⟨_, List.getElem?_eq_getElem hk'⟩
        have ex : x = .ref bk := by
          rw [List.getElem?_map, hbk] at hxk
          exact (Option.some.inj hxk).symm
        subst ex
        obtain ⟨r, hr2, gk⟩ := rw2.get hbk
        refine ⟨rfl, tyes ⟨_, rfl, _, _, rfl, rfl, qq.2 + 1, rfl, by omega, by omega, ?_⟩⟩
        rw [← en]
        refine lc_in walk_range (fun j H6 => ∃ as2, Acc H H3 H6 D as2 (widen (rs.take k) n ++ (List.range j).map fun (v : Nat) => r ++ [(v : Int)])) ⟨as', by simpa using A⟩ (fun _ _ _ _ => True.intro) ?_ ?_
        · rintro j y H6 H7 hj ⟨as2, A2⟩ ⟨rfl, ey⟩
          have ey' : y = .int (j : Int) := ey.trans (congrArg V.int (by omega))
          subst ey'
          have rlen : r.length ≤ 900 := by
            have z := grid_row (qs.take i) r (ers ▸ List.mem_of_getElem? hr2)
            rw [z, List.length_take]; omega
          have al2 : as2.length ≤ 100 := by
            rw [A2.rws.length, List.length_append, List.length_map, List.length_range, widen_len]
            have h1 : (rs.take k).length ≤ 16 := by rw [List.length_take]; omega
            have h2 := Nat.mul_le_mul h1 n4
            omega
          refine ⟨rfl, tyes ⟨_, rfl, bk, _, rfl, .inl (.inl (.inl (A2.same _ _ gk))), _, rfl, ?_, fun p hp7 => ?_⟩⟩
          · rw [List.length_append, List.length_map, List.length_singleton]
            exact Nat.le_of_lt (small1000 (by omega))
          have nD : D ≠ p := ne_of_none A2.at_ hp7
          have er : (r.map V.int ++ [.int (j : Int)] : List V) = (r ++ [(j : Int)]).map V.int := by rw [List.map_append]; rfl
          rw [er]
          refine ⟨_, by rw [upd_ne nD]; exact A2.at_, small1000 (by rw [List.length_map]; omega), as2 ++ [p], ?_⟩
          rw [range_more, ← List.append_assoc]
          exact A2.more s2 hD hp7
        · rintro H6 ⟨as2, A2⟩
          rw [← widen_take hr2] at A2
          exact ⟨as2, A2⟩
      · rintro H4 ⟨as', A⟩
        rw [List.length_map, List.take_of_length_le (by omega)] at A
        have l1 := A.rws.length
        refine ⟨D, as', _, _, rfl, s2.trans A.same, Same.free s2 hD, A.at_, ?_, fun b hb => (A.far b hb).2, ?_⟩
        · rw [tk1 hq, ← ers, ← en]; exact A.rws
        · rw [l1, widen_len, Nat.pow_succ, ← rl]
          exact Nat.mul_le_mul al n4
    · rintro σ H2 ⟨R, as, v2, v3, rfl, s2, hR, gR, rw2, far, al⟩
      rw [List.take_of_length_le (by omega)] at rw2
      exact ⟨_, rfl, q R as H2 hR s2 gR rw2 far⟩
end
end Ms
namespace Ms
open PySem PySem.Spec PyProof.Rows L2 LamX
/-! ### a law's own def that makes lambdas: its table of code objects is told -/
section
variable {P : Program} {w : World} {K : PySem.W.Frag} {mg : Str → Option Value} {base : Heap}
/-- as run_known, and the code object is told -/
theorem run_code {x qual : Str} {st : Stmt} {f : Addr} {fd : FuncData} {N ps : List Str} {k : Nat} (F : Fun K x qual st f fd) (S : FnScope N ps (defScope st))
    {A : Around} {outer : List Env} {s : Shared} {H : Hp} {args : Args} {us : List Value} {vs : List V} {Q : VK} {E : XK}
    (gA : A.guards = some []) (rm : Room (k + 1) A) (st0 : Env0 P w K mg base A outer s H) (bd : BindsTo s fd args (ps.zip us)) (rel : Vals vs us) (ln : vs.length = ps.length)
    (walk : ∀ cdv : Value, fd.code = cdv → Room k (A.deeper (envOfC qual (defScope st) s.heap.objs.size f cdv)) →
      ∃ t, PSs (cxOf CX0 P w K mg base N qual (defScope st) f cdv A outer s H E).nox (defBody st) t ∧ t { nx := fun _ H' => Q .non H', rt := Q } (start N vs) H) :
    codeAny (model P w) A (.call (.ref f) args) (CR CX0 outer P w H s Q E) s := by
  obtain ⟨oc, od, kV, doc, pm, an, cdv0, ct, osl, efd, atK, code⟩ := F.ex
  have ec : fd.code = cdv0 := by rw [efd]
  subst efd
  have inH : K.In s.heap := st0.mod.kin.keeps fun b o q => (st0.bs b o q).1
  have noLim : s.heap.NoLimit := st0.mod.nolimit.keeps fun b o q => (st0.bs b o q).1
  have kinds : ∀ y ∈ ps.zip us, (defScope st).names.lookup y.1 = some .local ∨ ((defScope st).names.lookup y.1 = some .cell ∧ ((cellsFrom (s.heap.objs.size + 1) (defScope st).names []).lookup y.1).isSome = true) := by
    rintro ⟨n, v⟩ hy
    rcases S.par n (List.of_mem_zip hy).1 with z | z
    · exact Or.inl z
    · exact Or.inr ⟨z, PySem.W.cellsFrom_some _ _ _ (.inl z)⟩
  refine codeAny_call_function rm.depth (inH _ _ atK) rfl S.co S.gen rfl (PySem.W.codeRec_of inH code) (bd _ _ _ _ ?_)
  refine wpAny_newFunctionEnv_cells S.kind kinds fun env eq s1 inC => ?_
  subst eq
  refine And.intro (noLim.keeps inC.toInCall.keep) (codeAny_func ?_)
  obtain ⟨t, derives, reads⟩ := walk cdv0 ec (rm.deeper _)
  have I := inv_start (CX := CX0) (P := P) (mg := mg) (base := base) (E := E) S rm.hd st0 ln rel inC
  refine wpAny_mono (derives.nox.run [] s1 (start N vs) H _ I reads) (fun fl s' hs => ?_) fun e s' hs => hs
  cases fl with
  | ret u =>
    obtain ⟨v, σ', H', J, rv, q⟩ := hs
    exact ⟨v, H', J.os, J.bare, J.base, J.hok, rv, q⟩
  | next =>
    obtain ⟨σ', H', J, q⟩ := hs
    exact ⟨V.non, H', J.os, J.bare, J.base, J.hok, rfl, q⟩
  | brk => obtain ⟨_, _, _, q⟩ := hs; exact q.elim
  | cont => obtain ⟨_, _, _, q⟩ := hs; exact q.elim

/-- as LawRun; c the law's code object, T its table, empty as yet -/
def LawRunT (P : Program) (w : World) (K : PySem.W.Frag) (mg : Str → Option Value) (fa c T : Addr) : Prop :=
  ∀ (base : Heap) (H : Hp) (s : Shared) (a : Addr) (ns : List Int), K.In base → base.Ns mainGlobals mg → TabB base mg c T → H T = some (.tbl #[]) → SqL K H a (ns.map V.int) → ns.length ≤ 63 → Env0 P w K mg base callerA [] s H →
    codeAny (model P w) callerA (.call (.ref fa) ⟨[.ref a], []⟩) (CR CX0 [] P w H s (fun v _ => v = .bl true) fun _ _ _ => False) s
/-- the script and the table stand alone in the heap that is told -/
structure AloneT (H : Hp) (h : Heap) (K : PySem.W.Frag) (a T : Addr) : Prop where
  only : ∀ b, H b = none ∨ b = T ∨ ∃ ob xs, H b = some (.frz ob (.lst xs))
  here : ∀ b, H b ≠ none → b = a ∨ b = T
  off : H a ≠ none → K.lookup a = none
  offT : K.lookup T = none
  tab : h.get? T = some { cls := .none, data := .fields #[] }
  told : H T = some (.tbl #[])
section
variable {H : Hp} {h : Heap} {a c T : Addr} {vs : Array Value}
theorem AloneT.hidden (x : AloneT H h K a T) (ea : h.get? a = some { cls := .type "list", data := .seq vs }) {b : Addr} {o : Obj} (e : h.get? b = some o) (d1 : o.data ≠ .seq vs) (d2 : o.data ≠ .fields #[]) : H b = none := by
  cases q : H b with
  | none => rfl
  | some u =>
    rcases x.here b (by rw [q]; exact fun z => nomatch z) with z | z
    · subst z
      rw [ea] at e
      cases e
      exact absurd rfl d1
    · subst z
      rw [x.tab] at e
      cases e
      exact absurd rfl d2
theorem AloneT.get (x : AloneT H h K a T) (ea : h.get? a = some { cls := .type "list", data := .seq vs }) {b : Addr} {o : Obj} (e : h.get? b = some o) (d1 : o.data ≠ .seq vs) (d2 : o.data ≠ .fields #[]) : (hidT h H).get? b = some o := hidT_get e (x.hidden ea e d1 d2)
theorem AloneT.ns (x : AloneT H h K a T) (ea : h.get? a = some { cls := .type "list", data := .seq vs }) {b : Addr} {m : Str → Option Value} (n : h.Ns b m) : (hidT h H).Ns b m := by
  obtain ⟨o, es, ep, e, d, r⟩ := n
  refine ⟨o, es, ep, x.get ea e ?_ ?_, d, r⟩ <;> (rw [d]; intro z; cases z)
theorem AloneT.kin (x : AloneT H h K a T) (X : K.In h) : K.In (hidT h H) := fun b o e => by
  refine hidT_get (X b o e) ?_
  cases q : H b with
  | none => rfl
  | some u =>
    rcases x.here b (by rw [q]; exact fun z => nomatch z) with z | z
    · subst z
      rw [x.off (by rw [q]; exact fun z => nomatch z)] at e
      cases e
    · subst z
      rw [x.offT] at e
      cases e
theorem AloneT.hd (x : AloneT H h K a T) (ea : h.get? a = some { cls := .type "list", data := .seq vs }) (C : PySem.W.CodeHd h c T) : PySem.W.CodeHd (hidT h H) c T := by
  obtain ⟨o, us, f, tf, g, tg, inF, n, tt, e, r1, r2, r3, r⟩ := C
  refine ⟨o, us, f, tf, g, tg, inF, n, tt, x.get ea e ?_ ?_, r1, r2, r3, r⟩
  · rw [r2]; intro z; cases z
  · intro z
    rw [r2] at z
    cases z
    simp at r3
end
theorem law_told {fa a c T : Addr} {s : Shared} {vs : List Value} {ns : List Int} {mb : Str → Option Value} {H : Hp} (R : LawRunT P w K mg fa c T) (al : AloneT H s.heap K a T)
    (X : K.In s.heap) (g : s.heap.Ns mainGlobals mg) (b : s.heap.Ns builtinsNs mb) (bb : ∀ x : Str, x ≠ "__name__" → mb x = bootBuiltins x) (lim : s.heap.NoLimit) (gs : s.gens = #[]) (C : PySem.W.CodeHd s.heap c T)
    (bm : ∃ (bm : Addr) (ob : Obj), mg "__builtins__" = some (.ref bm) ∧ bm ≠ builtinsNs ∧ s.heap.get? bm = some ob ∧ ob.cls = .type "module" ∧ ob.dict = some builtinsNs ∧ ob.data = .plain)
    (ea : s.heap.get? a = some { cls := .type "list", data := .seq vs.toArray }) (hS : SqL K H a (ns.map V.int)) (hl : ns.length ≤ 63) (ok : HOk P w H s.heap) :
    codeAny (model P w) callerA (.call (.ref fa) ⟨[.ref a], []⟩) (fun r s' => r = .ok (.ret (.bool true)) ∧ OldK s.heap s'.heap ∧ s'.os = s.os ∧ AllBare s'.gens) s := by
  have gT : mainGlobals ≠ T := fun z => by
    obtain ⟨o, es, ep, e, d, _⟩ := g
    rw [z, al.tab] at e
    cases e
    cases d
  have M : L2.Mod K mg (hidT s.heap H) := by
    refine ⟨al.kin X, al.ns ea g, ⟨mb, al.ns ea b, bb⟩, ?_⟩
    obtain ⟨mc, l1, l2⟩ := lim
    exact ⟨mc, al.ns ea l1, l2⟩
  have TB : TabB (hidT s.heap H) mg c T := by
    refine ⟨al.hd ea C, ?_, gT⟩
    obtain ⟨q, ob, b1, b2, b3, b4, b5, b6⟩ := bm
    have nG : q ≠ mainGlobals := fun z => by
      obtain ⟨o, es, ep, e, d, _⟩ := g
      rw [z, e] at b3
      cases b3
      rw [d] at b6
      cases b6
    have nT : q ≠ T := fun z => by
      rw [z, al.tab] at b3
      cases b3
      cases b6
    refine ⟨q, ob, b1, b2, nG, nT, al.get ea b3 ?_ ?_, b4, b5, b6⟩ <;> (rw [b6]; intro z; cases z)
  have st0 : Env0 P w K mg (hidT s.heap H) callerA [] s H := by
    refine ⟨rfl, M, fun b o e => of_hidT e, Nat.le_of_eq (hidT_size _ _), trivial, fun b hb => ?_, ok, AllBare.of_eq gs⟩
    cases (show b ∈ ([] : List Addr) from hb)
  refine codeAny_mono (R _ H s a ns M.kin M.glob TB al.told hS hl st0) fun r s' q => ?_
  match r, q with
  | .error e, q => exact False.elim q
  | .ok (.next), q => exact False.elim q
  | .ok (.brk), q => exact False.elim q
  | .ok (.cont), q => exact False.elim q
  | .ok (.ret u), q =>
    obtain ⟨v, H', eos, bare, un, ok', rv, qv⟩ := q
    have qv' : v = .bl true := qv
    subst qv'
    obtain rfl : u = Value.bool true := rv
    obtain ⟨more, hm⟩ := un.tbls T #[] al.told
    have eT : s'.heap.get? T = some { cls := .none, data := .fields (#[] ++ more) } := ok' T _ hm
    have other : ∀ b o, b ≠ T → s.heap.get? b = some o → s'.heap.get? b = some o := fun b o nb e => by
      rcases al.only b with z | z | ⟨ob, xs, z⟩
      · exact un.keep b o e z (fun y => by cases (show b ∈ ([] : List Addr) from y)) (by simp)
      · exact absurd z nb
      · have h1 := (ok b _ z).1
        have h2 := (ok' b _ (un.frzs b ob _ z)).1
        rw [e] at h1
        cases h1
        exact h2
    refine And.intro rfl (And.intro ⟨fun b o e => ?_, fun b o e => ?_⟩ (And.intro eos bare))
    · by_cases hb : b = T
      · subst hb
        rw [al.tab] at e
        cases e
        exact .inr (.inl ⟨(C.tab al.tab).isCodeTable, rfl, #[], more, rfl, eT⟩)
      · exact .inl (other b o hb e)
    · by_cases hb : b = T
      · subst hb
        exact ⟨_, eT⟩
      · exact ⟨o, other b o hb e⟩
theorem law_tabled {fa a c T : Addr} {s : Shared} {vs : List Value} {ns : List Int} {mb : Str → Option Value} (R : LawRunT P w K mg fa c T)
    (X : K.In s.heap) (g : s.heap.Ns mainGlobals mg) (b : s.heap.Ns builtinsNs mb) (bb : ∀ x : Str, x ≠ "__name__" → mb x = bootBuiltins x) (lim : s.heap.NoLimit) (gs : s.gens = #[]) (C : PySem.W.CodeHd s.heap c T)
    (bm : ∃ (bm : Addr) (ob : Obj), mg "__builtins__" = some (.ref bm) ∧ bm ≠ builtinsNs ∧ s.heap.get? bm = some ob ∧ ob.cls = .type "module" ∧ ob.dict = some builtinsNs ∧ ob.data = .plain)
    (et : s.heap.get? T = some { cls := .none, data := .fields #[] }) (nt : K.lookup T = none)
    (ea : s.heap.get? a = some { cls := .type "list", data := .seq vs.toArray }) (hi : IntsAre vs ns) (hl : ns.length ≤ 63) :
    codeAny (model P w) callerA (.call (.ref fa) ⟨[.ref a], []⟩) (fun r s' => r = .ok (.ret (.bool true)) ∧ OldK s.heap s'.heap ∧ s'.os = s.os ∧ AllBare s'.gens) s := by
  have rel := vals_ints hi
  have ll := hi.length
  have hl2 : ns.length ≤ sizeLine := Nat.le_trans hl (by decide)
  have naT : a ≠ T := fun z => by
    rw [z, et] at ea
    cases ea
  cases lk : K.lookup a with
  | some o =>
    have e := X a o lk
    rw [ea] at e
    cases e
    let H0 : Hp := fun b => if b = T then some (.tbl #[]) else Option.none
    have hT : H0 T = some (.tbl #[]) := if_pos rfl
    have hN : ∀ b, b ≠ T → H0 b = none := fun b hb => if_neg hb
    refine law_told (H := H0) R ⟨fun b => ?_, fun b z => ?_, fun z => absurd (hN a naT) z, nt, et, hT⟩ X g b bb lim gs C bm ea ?_ hl (fun b u z => ?_)
    · by_cases hb : b = T
      · exact .inr (.inl hb)
      · exact .inl (hN b hb)
    · by_cases hb : b = T
      · exact .inr hb
      · exact absurd (hN b hb) z
    · refine .inr ⟨_, vs.toArray, _, lk, rfl, rfl, rfl, ?_, by simpa using rel⟩
      rw [List.size_toArray, ll]
      exact hl2
    · by_cases hb : b = T
      · subst hb
        rw [hT] at z
        cases z
        exact et
      · rw [hN b hb] at z
        cases z
  | none =>
    let o0 : HO := .frz { cls := .type "list", data := .seq vs.toArray } (.lst (ns.map V.int))
    let H0 : Hp := fun b => if b = a then some o0 else if b = T then some (.tbl #[]) else Option.none
    have hA : H0 a = some o0 := if_pos rfl
    have hT : H0 T = some (.tbl #[]) := (if_neg (Ne.symm naT)).trans (if_pos rfl)
    have hN : ∀ b, b ≠ a → b ≠ T → H0 b = none := fun b h1 h2 => (if_neg h1).trans (if_neg h2)
    refine law_told (H := H0) R ⟨fun b => ?_, fun b z => ?_, fun _ => lk, nt, et, hT⟩ X g b bb lim gs C bm ea (.inl (.inr ⟨_, hA⟩)) hl (fun b u z => ?_)
    · by_cases h1 : b = a
      · subst h1; exact .inr (.inr ⟨_, _, hA⟩)
      · by_cases hb : b = T
        · exact .inr (.inl hb)
        · exact .inl (hN b h1 hb)
    · by_cases h1 : b = a
      · exact .inl h1
      · by_cases hb : b = T
        · exact .inr hb
        · exact absurd (hN b h1 hb) z
    · by_cases h1 : b = a
      · subst h1
        rw [hA] at z
        cases z
        exact ⟨ea, by rw [List.length_map]; exact hl2, vs, _, rel, ea⟩
      · by_cases hb : b = T
        · subst hb
          rw [hT] at z
          cases z
          exact et
        · rw [hN b h1 hb] at z
          cases z
/-- the end of such a law's row -/
theorem walk_tabled {l : PySem.W.OpenLaw} {q : Program} {loose : List Str} {XP : (Str → Option Value) → Heap → Prop} {YP : World → Heap → Prop} {d : DefRec} {K : Params → PySem.W.Frag} {c T : Addr} (hn : l.most = some 63) (hdf : d.params.defaults = [])
    (hY : ∀ (w : World) (h : Heap), YP w h → (K w.params).In h) (ht : ∀ (w : World) (h : Heap), YP w h → h.get? T = some { cls := .none, data := .fields #[] }) (hc : ∀ w : World, PySem.W.codeHdIn (K w.params) c T = true) (nt : ∀ w : World, (K w.params).lookup T = none)
    (R : ∀ (w : World) (mg : Str → Option Value) (fa : Addr) (h : Heap), (K w.params).In h → h.Ns mainGlobals mg → mg d.name = some (.ref fa) → LawRunT l.prog w (K w.params) mg fa c T) :
    PySem.W.WalkO q loose XP YP l.row.toRowW d [] (fun f vs => PySem.call f vs) := by
  refine Att.attach_call hn hdf fun w s₀ s₁ mg mb fa o pm cd doc a vs ns G Y ho hd hcd hmg hobj hints hlen hg => ?_
  have KX := hY w _ Y
  exact law_tabled (R w mg fa _ KX G.T.g hmg) KX G.T.g G.T.b G.T.builtins G.T.nolimit hg (PySem.W.codeHd_of_K KX (hc w)) G.T.bmain (ht w _ Y) (nt w) hobj hints hlen
end
end Ms
namespace Ms
open PySem PySem.Spec PyProof.Rows L2
/-! ### BadSettings(e) and need_settings -/
structure ErrC (K : PySem.W.Frag) (C fE : Addr) : Prop where
  ox : OexC K C
  ini : PySem.W.findIn K (.ref C) "__init__" = some (some (.ref fE))
  ty : PySem.W.typeIn K (.ref fE) = some (.type "function")
  no : PySem.W.findIn K (.ref C) "place" = some none
def spIni (C : Addr) : Sp := fun vs H Q _ => ∃ (a : Addr) (y : V), vs = [.ref a, y] ∧ H a = some (exo a C none) ∧ ∀ dx, H dx = none → dx ≠ a → Q .non (upd (upd H dx (exd dx [("place", y)])) a (exo a C (some dx)))
def needV (d : PyData) : Option V := match d with
  | .tuple ds => if 1 ≤ ds.length ∧ ds.length ≤ 3 then (match dueGo 0 [] 1 ds with | .inl p => some (.int (p : Nat)) | .inr many => if many ≤ 12 then none else some (.str "many")) else some .non
  | _ => some .non
def spNeed (K : PySem.W.Frag) (C : Addr) : Sp := fun vs H Q E => ∃ (m l : Addr) (v : V) (d : PyData) (B b : Nat), vs = [v] ∧ Dq K H m l v d ∧ Gd B 100000 b d ∧ (needV d = none → ∀ H', Same H H' → Q v H') ∧
  ∀ u, needV d = some u → ∀ dx H', H dx = none → Same H H' → H' dx = some (.xd [("place", u)]) → E (.ref C) (some dx) H'
theorem mk_one {C : Addr} {H1 : Hp} {y : V} {Q : XK} (h : ∀ d H', H1 d = none → Same H1 H' → H' d = some (.xd [("place", y)]) → Q (.ref C) (some d) H') :
    [y].length ≤ 1000 ∧ ∀ a, H1 a = none → spIni C (.ref a :: ([y] ++ [])) (upd H1 a (exo a C none))
      (fun v H2 => v = .non ∧ ∃ (d : Addr) (fs : List (Str × V)), H2 a = some (exo a C (some d)) ∧ H2 d = some (exd d fs) ∧ H1 d = none ∧ Q (.ref C) (some d) (upd (del H2 a) d (.xd fs))) (fun _ _ _ => False) := by
  refine ⟨(by show 1 ≤ 1000; decide), fun a ha => ⟨a, y, rfl, upd_same, fun dx h1 h2 => ?_⟩⟩
  have hd : H1 dx = none := by rw [upd_ne h2] at h1; exact h1
  refine ⟨rfl, dx, [("place", y)], upd_same, by rw [upd_ne h2, upd_same], hd, h dx _ hd (fun b o e => ?_) upd_same⟩
  rw [upd_ne (ne_of_none e hd), del_ne (ne_of_none e ha), upd_ne (ne_of_none e ha), upd_ne (ne_of_none e hd), upd_ne (ne_of_none e ha)]
  exact e
section
variable {P : Program} {w : World} {K : PySem.W.Frag} {mg : Str → Option Value} {base : Heap} {fI fN fS fA fG C fE : Addr}
theorem scIn : FnScope ["self", "place"] ["self", "place"] (defScope sIni) := ⟨rfl, rfl, rfl, by decide +kernel, rfl, by decide +kernel, by decide +kernel⟩
theorem ok_ini {fd : FuncData} {qual : Str} (F : Fun K "__init__" qual sIni fE fd) (TE : ErrC K C fE) : FnOk P w K mg base CX0 1 fE fd ["self", "place"] (spIni C) := by
  refine F.ok scIn (fun vs H Q E h => ?_) (fun cdv A outer s H vs Q E hr h => ?_)
  · obtain ⟨a, y, rfl, _⟩ := h
    rfl
  · obtain ⟨a, y, rfl, e, q⟩ := h
    exact ⟨_, pss_one (ps_ost (pv 0) (pv 1)), ⟨_, rfl, _, rfl, a, C, rfl, TE.ox, TE.no, .inl ⟨e, fun dx h1 h2 => q dx h1 h2⟩⟩⟩
abbrev NPd : List Str := ["thing", "at", "setting"]
theorem scPd : FnScope NPd ["thing"] (defScope sNeed) := ⟨rfl, rfl, rfl, by decide +kernel, rfl, by decide +kernel, by decide +kernel⟩
def many (qs : List (Str × Int)) : Int := qs.foldl (fun m q => m * (q.2 + 1)) 1
theorem fold_many : ∀ (qs : List (Str × Int)) (rs : List (List Int)) (m : Int), (∀ q ∈ qs, 1 ≤ q.2 ∧ q.2 ≤ 3) → (rs.length : Int) = m → ((qs.foldl (fun rs q => widen rs (q.2 + 1).toNat) rs).length : Int) = qs.foldl (fun m q => m * (q.2 + 1)) m
  | [], rs, m, _, h => h
  | q :: qs, rs, m, hq, h => by
    refine fold_many qs (widen rs (q.2 + 1).toNat) (m * (q.2 + 1)) (fun x hx => hq x (List.mem_cons_of_mem _ hx)) ?_
    have := hq q (List.mem_cons_self ..)
    rw [widen_len, Int.natCast_mul, h]
    congr 1
    omega
theorem grid_many (qs : List (Str × Int)) (h : ∀ q ∈ qs, 1 ≤ q.2 ∧ q.2 ≤ 3) : ((grid qs).length : Int) = many qs := fold_many qs [[]] 1 h rfl
theorem ok_need {f : Addr} {fd fdI fdN fdS fdA fdG fdE : FuncData} {qual : Str} (F : Fun K "need_settings" "need_settings" sNeed f fd) (T : TxtP mg fI fN fS fA fG) (gC : mg "BadSettings" = some (.ref C)) (TE : ErrC K C fE)
    (FI : Fun K "is_int" "is_int" sPInt fI fdI) (bI : Binds K fdI ["thing"] []) (FN : Fun K "is_name" "is_name" sPName fN fdN) (bN : Binds K fdN ["thing"] []) (FS : Fun K "is_setting" "is_setting" sPSet fS fdS) (bS : Binds K fdS ["thing"] [])
    (FA : Fun K "names_of" "names_of" sPNames fA fdA) (bA : Binds K fdA ["settings"] []) (FG : Fun K "grid_of" "grid_of" sPGrid fG fdG) (bG : Binds K fdG ["settings"] []) (FE : Fun K "__init__" qual sIni fE fdE) (bE : Binds K fdE ["self", "place"] []) :
    FnOk P w K mg base (L2.CX P w) 3 f fd ["thing"] (spNeed K C) := by
  have GS : FnOk P w K mg base CX0 2 fS fdS ["thing"] (spPSet K) := ok_pset FS T FI bI FN bN
  have GA : FnOk P w K mg base CX0 1 fA fdA ["settings"] (spPNames K) := ok_pnames FA
  have GG : FnOk P w K mg base CX0 1 fG fdG ["settings"] (spPGrid K) := ok_pgrid FG T
  have GE : FnOk P w K mg base CX0 1 fE fdE ["self", "place"] (spIni C) := ok_ini FE TE
  refine F.okX scPd (fun vs H Q E h => ?_) (fun cdv A outer s H vs Q E hr h => ?_)
  · obtain ⟨m, l, v, d, B, b, rfl, _⟩ := h
    rfl
  obtain ⟨m, l, v, d, B, b, rfl, hd, gd, q, qe⟩ := h
  obtain ⟨ts, gs⟩ := T.mS
  obtain ⟨tt, gt⟩ := T.mT
  have hr1 : Room 1 _ := hr.mono (by decide)
  refine ⟨_, pss_cons (ps_if (PW.pt (pw_or (pt_not (pt_val (pe_callB call_isi (by rfl) T.isi PyProof.Rows.boot_isinstance (pa_cons (pv 0) (pa_cons (pe_bltn (v := .ty "tuple") (u := .type "tuple") (by rfl) T.tuple (by decide +kernel) rfl) pa_nil)))))
      (pw_or1 (pt_not (pt_chain op_le op_le pe_int (pe_callB call_len (by rfl) T.len PySem.boot_len (pa_cons (pv 0) pa_nil)) (pe_glob (v := .int 3) rfl gs ⟨_, rfl⟩)))))) (pss_one (ps_raise rfl (takes_of rfl rfl rfl rfl) (pmk_oex TE.ox TE.ini TE.ty GE hr bE .nil pass0 (by rfl) gC (pa_cons pe_non pa_nil)))) pss_nil)
    (pss_cons (ps_for (passes_of rfl) rfl (pi_et (by rfl) T.enumerate (pa_cons (pv 0) pa_nil)) (pg_tup rfl (pgs_cons (pg_name (i := 1) scPd.nd rfl (by first | exact Or.inl rfl | exact Or.inr rfl)) (pgs_cons (pg_name (i := 2) scPd.nd rfl (by first | exact Or.inl rfl | exact Or.inr rfl)) pgs_nil)))
      (pss_one (ps_if (PW.pt (pw_or (pt_not (pt_val (pe_call GS hr rfl T.gS FS.kp bS .nil pass0 (pa_cons (pv 2) pa_nil)))) (pw_or1 (pt_cmpR op_in_seq (pe_ix ix_tup (pv 2) pe_int (fun _ _ => rfl)) (pe_call GA hr1 rfl T.gA FA.kp bA .nil pass0 (pa_cons (pe_slice sl_tupA (pv 0) po_none (po_some (pv 1))) pa_nil)) (by rfl)))))
        (pss_one (ps_raise rfl (takes_of rfl rfl rfl rfl) (pmk_oex TE.ox TE.ini TE.ty GE hr bE .nil pass0 (by rfl) gC (pa_cons (pv 1) pa_nil)))) pss_nil)))
    (pss_cons (ps_if (pt_cmpR op_gt (pe_callB call_len_seq (by rfl) T.len PySem.boot_len (pa_cons (pe_call GG hr1 rfl T.gG FG.kp bG .nil pass0 (pa_cons (pv 0) pa_nil)) pa_nil)) (pe_glob (v := .int 12) rfl gt ⟨_, rfl⟩) (nomark _))
        (pss_one (ps_raise rfl (takes_of rfl rfl rfl rfl) (pmk_oex TE.ox TE.ini TE.ty GE hr bE .nil pass0 (by rfl) gC (pa_cons pe_str pa_nil)))) pss_nil)
    (pss_one (ps_ret (pv 0))))), ?_⟩
  refine ⟨_, rfl, v, .ty "tuple", _, _, _, rfl, .ty _, hd.ty, isi_tup K d, _, rfl, ?_⟩
  cases d with
  | tuple ds =>
    cases hd with
    | tup hp hx =>
      rename_i p xs
      refine ifF rfl ?_
      have lx := hx.len
      have none0 : ¬ (1 ≤ ds.length ∧ ds.length ≤ 3) → needV (.tuple ds) = some .non := fun h => by
        show (if 1 ≤ ds.length ∧ ds.length ≤ 3 then _ else some V.non) = some .non
        rw [if_neg h]
      refine ⟨_, rfl, .ref p, xs.length, rfl, .inr ⟨xs, hp, rfl⟩, 1, (xs.length : Int), rfl, rfl, _, rfl, ite_b (fun e1 => ⟨(xs.length : Int), 3, rfl, rfl, _, rfl, ite_b (fun e8 => mk_one (qe _ (none0 ?_))) (fun e8 => ?_)⟩) (fun e1 => ⟨_, rfl, ifT rfl (mk_one (qe _ (none0 ?_)))⟩)⟩
      · have : ¬ ((xs.length : Int) ≤ 3) := by simpa using e8
        omega
      · have l3 : (xs.length : Int) ≤ 3 := by simpa using e8
        have l1 : (1 : Int) ≤ (xs.length : Int) := of_decide_eq_true e1
        have ed : needV (.tuple ds) = (match dueGo 0 [] 1 ds with | .inl p => some (V.int (p : Nat)) | .inr many => if many ≤ 12 then none else some (.str "many")) := by
          show (if 1 ≤ ds.length ∧ ds.length ≤ 3 then _ else some V.non) = _
          rw [if_pos ⟨by omega, by omega⟩]
        refine ⟨_, rfl, p, xs, rfl, hp, ?_⟩
        refine for_it walk_et (fun i σ H1 => ∃ (qs : List (Str × Int)) (v1 v2 : Option V), σ = [some (.ref p), v1, v2] ∧ Same H H1 ∧ PrTs K H1 (xs.take i) qs ∧ (∀ q ∈ qs, 1 ≤ q.2 ∧ q.2 ≤ 3) ∧ dueGo 0 [] 1 ds = dueGo i (qs.map (·.1)) (many qs) (ds.drop i))
          ⟨[], none, none, rfl, Same.refl H, by rw [List.take_zero]; exact .nil, (fun q hq => nomatch hq), rfl⟩ (fun i σ H1 _ ⟨qs, v1, v2, _, s1, _⟩ => Same.seqT s1 hp) ?_ ?_
        · rintro i x σ H1 H2 hi ⟨qs, v1, v2, rfl, s1, pq, bq, dg⟩ ⟨TT, x1, x2, rfl, hT, rfl, e1', e2'⟩
          have ex1 : x1 = .int (i : Nat) := (Option.some.inj e1').symm
          subst ex1
          obtain ⟨e, he, dqe⟩ := hx.get e2'
          have sT : Same H1 (upd H1 TT (.tup [.int (i : Nat), x2])) := Same.upd hT
          have sA : Same H (upd H1 TT (.tup [.int (i : Nat), x2])) := s1.trans sT
          have dqA := Dq.same sA e x2 dqe
          have hid : i < ds.length := by omega
          have edr : ds.drop i = e :: ds.drop (i + 1) := by rw [List.drop_eq_getElem_cons hid]; rw [(List.getElem?_eq_some_iff.mp he).2]
          have refuse : ∀ {H3 : Hp}, Same H H3 → needV (.tuple ds) = some (.int (i : Nat)) → ∀ d H', H3 d = none → Same H3 H' → H' d = some (.xd [("place", V.int (i : Nat))]) → E (.ref C) (some d) H' := fun {H3} s3 hn d H' h1 h2 h3 =>
            qe _ hn d H' (Same.free s3 h1) (s3.trans h2) h3
          obtain ⟨cc, eb, g⟩ := Gd.untup gd
          have ge := g.at he
          have we : e.weight ≤ 100000 := by
            have := wA_at he
            have := g.wt
            omega
          refine ⟨TT, _, rfl, .inl (.inl upd_same), rfl, _, _, rfl, _, _, rfl, rfl, ?_⟩
          refine ⟨_, rfl, m, l, x2, e, _, _, rfl, dqA, ge.mono (Nat.le_refl _) we (Nat.le_refl _), fun H3 s3 => ⟨_, rfl, ?_⟩⟩
          have s03 := sA.trans s3
          cases eo : oneD e with
          | none =>
            refine ifT rfl ⟨_, rfl, mk_one (refuse s03 ?_)⟩
            rw [ed, dg, edr]
            simp only [dueGo, eo]
          | some zc =>
            obtain ⟨z, c⟩ := zc
            have le := pq.len
            obtain ⟨a, rfl, hq, cb⟩ : ∃ a, x2 = .ref a ∧ SqT K H a [.str z, .int c] ∧ 1 ≤ c ∧ c ≤ 3 := by
              have key : e = .tuple [.str z, .int c] ∧ 1 ≤ c ∧ c ≤ 3 := by
                have eo' := eo
                unfold oneD at eo'
                split at eo'
                · split at eo'
                  · rename_i hh
                    cases eo'
                    have hw := (Bool.and_eq_true _ _ ▸ hh : _ ∧ _).2
                    exact ⟨rfl, of_decide_eq_true (Bool.and_eq_true _ _ ▸ hw : _ ∧ _).1, of_decide_eq_true (Bool.and_eq_true _ _ ▸ hw : _ ∧ _).2⟩
                  · cases eo'
                · cases eo'
              obtain ⟨rfl, kb⟩ := key
              cases dqe with
              | tup h0 hy0 =>
                cases hy0 with
                | cons g0 hy1 =>
                  cases hy1 with
                  | cons g1 hy2 =>
                    cases g0
                    cases g1
                    cases hy2
                    exact ⟨_, rfl, h0, kb⟩
            refine ifF rfl ?_
            refine ⟨_, rfl, a, _, 0, .str z, rfl, rfl, Same.seqT s03 hq, rfl, ?_⟩
            refine ⟨_, rfl, _, rfl, _, rfl, slA_any (Same.seqT s03 hp) fun p4 H4 s4 c4 => ?_⟩
            rw [cut_to (by omega)] at c4
            refine ⟨p4, xs.take i, qs, rfl, c4, (pq.same (sT.trans (s3.trans s4))), (by rw [← le, List.length_take]; omega), fun D hD H5 s5 g5 => ?_⟩
            have sF := (s03.trans s4).trans s5
            refine ⟨D, _, rfl, .inl (SqL.of g5), rfl, (by simp [flatV]), _, rfl, ite_b (fun e => ⟨_, rfl, mk_one (refuse sF ?_)⟩) (fun e => ?_)⟩
            · have e' : inV (.str z) ((qs.map (·.1)).map V.str) = true := e
              rw [inV_str] at e'
              have hz := of_decide_eq_true e'
              rw [ed, dg, edr]
              simp only [dueGo, eo, if_pos hz]
            · have e' : inV (.str z) ((qs.map (·.1)).map V.str) = false := e
              rw [inV_str] at e'
              have nz := of_decide_eq_false e'
              refine ⟨qs ++ [(z, c)], _, _, rfl, sF, ?_, fun q hq' => ?_, ?_⟩
              · have e3 : xs[i]? = some (V.ref a) := e2'
                rw [List.take_succ, e3]
                exact (pq.same (sT.trans ((s3.trans s4).trans s5))).snoc ⟨a, rfl, Same.seqT sF hq⟩
              · rcases List.mem_append.mp hq' with hq' | hq'
                · exact bq q hq'
                · rw [List.mem_singleton.mp hq']; exact cb
              · rw [dg, edr]
                simp only [dueGo, eo, if_neg nz]
                unfold many
                rw [List.map_append, List.foldl_append]
                rfl
        · rintro σ H1 ⟨qs, v1, v2, rfl, s1, pq, bq, dg⟩
          rw [List.take_of_length_le (by omega)] at pq
          rw [List.drop_of_length_le (by omega)] at dg
          have le := pq.len
          have ed2 : needV (.tuple ds) = if many qs ≤ 12 then none else some (.str "many") := by
            rw [ed, dg]; rfl
          refine ⟨_, rfl, p, xs, qs, rfl, Same.seqT s1 hp, pq, by omega, bq, fun D as H2 hD s2 gD rw2 _ => ?_⟩
          have lg := rw2.length
          refine ⟨D, _, rfl, .inl (SqL.of gD), _, _, rfl, rfl, _, rfl, ite_b (fun e => mk_one fun d H' h1 h2 h3 => ?_) (fun e => ?_)⟩
          · have hm : ¬ many qs ≤ 12 := by
              have := of_decide_eq_true e
              rw [← grid_many qs bq]
              rw [List.length_map, lg] at this
              omega
            exact qe _ (by rw [ed2, if_neg hm]) d H' (Same.free (s1.trans s2) h1) ((s1.trans s2).trans h2) h3
          · have hm : many qs ≤ 12 := by
              have := of_decide_eq_false e
              rw [← grid_many qs bq]
              rw [List.length_map, lg] at this
              omega
            exact ⟨_, rfl, q (by rw [ed2, if_pos hm]) _ (s1.trans s2)⟩
      · have : ¬ ((1 : Int) ≤ (xs.length : Int)) := of_decide_eq_false e1
        omega
  | _ => exact ifT rfl (ifT rfl (mk_one (qe _ rfl)))
end
end Ms
namespace Ms
open PySem PySem.Spec PyProof.Rows L2
/-! ### drawn names are names, and no two are the same -/
def lowC (c : Nat) : Prop := 97 ≤ c ∧ c ≤ 122
def Lw (a : Nat) (z : Str) : Prop := z.length ≤ a ∧ ∀ c ∈ z.cps.toList, lowC c
theorem Lw.ok {a : Nat} {z : Str} (h : Lw a z) : sOk a z := ⟨h.1, fun c hc => by have := (h.2 c hc).2; omega⟩
theorem Lw.mono {a b : Nat} {z : Str} (h : Lw a z) (k : a ≤ b) : Lw b z := ⟨Nat.le_trans h.1 k, h.2⟩
theorem app_list (z y : Str) : (z ++ y).cps.toList = z.cps.toList ++ y.cps.toList := Array.toList_append
theorem Lw.app {a b : Nat} {z y : Str} (h : Lw a z) (k : Lw b y) : Lw (a + b) (z ++ y) := by
  refine ⟨by rw [Str.length_append]; exact Nat.add_le_add h.1 k.1, fun c hc => ?_⟩
  rw [app_list] at hc
  exact (List.mem_append.mp hc).elim (h.2 c) (k.2 c)
theorem cut_list (z : Str) (lo hi : Option Int) : (cutS z lo hi).cps.toList = (z.cps.toList.drop (HT.sIx z.length 0 lo)).take (HT.sIx z.length z.length hi - HT.sIx z.length 0 lo) := by simp [cutS]
theorem len_list (z : Str) : z.cps.toList.length = z.length := Array.length_toList
theorem Lw.cut {a : Nat} {z : Str} (h : Lw a z) (lo hi : Option Int) : Lw a (cutS z lo hi) := by
  refine ⟨?_, fun c hc => h.2 c ?_⟩
  · rw [← len_list, cut_list, List.length_take, List.length_drop, len_list]
    have := h.1
    omega
  · rw [cut_list] at hc
    exact List.mem_of_mem_drop (List.mem_of_mem_take hc)
theorem Lw.sign {c : Nat} (h : lowC c) : Lw 1 ⟨#[c]⟩ := ⟨Nat.le_refl _, fun d hd => by simp at hd; rw [hd]; exact h⟩
theorem alpha_nat : ∀ j : Nat, j < 26 → alpha.cps.toList[j]? = some (97 + j) := by
  intro j h
  rw [alpha_list]
  have : ∀ j : Fin 26, ([97, 98, 99, 100, 101, 102, 103, 104, 105, 106, 107, 108, 109, 110, 111, 112, 113, 114, 115, 116, 117, 118, 119, 120, 121, 122] : List Nat)[j.1]? = some (97 + j.1) := by decide
  exact this ⟨j, h⟩
theorem alpha_at2 {i : Int} (h0 : 0 ≤ i) (h1 : i < 26) : atI alpha.cps.toList i = some (97 + i.toNat) ∧ lowC (97 + i.toNat) := by
  obtain ⟨j, rfl⟩ : ∃ j : Nat, i = (j : Int) := ⟨i.toNat, by omega⟩
  refine ⟨atI_nat (alpha_nat j (by omega)), ?_⟩
  unfold lowC
  omega
def nmOk (z : Str) : Prop := 1 ≤ z.length ∧ z.length ≤ 8 ∧ ∀ c ∈ z.cps.toList, lowC c
theorem nmOk.ok {z : Str} (h : nmOk z) : sOk 16 z := ⟨by have := h.2.1; omega, fun c hc => by have := (h.2.2 c hc).2; omega⟩
theorem map_nodup {k : Nat} {f : Nat → Str} (h : ∀ i j, i < k → j < k → f i = f j → i = j) : ((List.range k).map f).Nodup := by
  unfold List.Nodup
  rw [List.pairwise_map]
  refine List.Pairwise.imp_of_mem ?_ (List.pairwise_lt_range (n := k))
  intro i j hi hj hlt e
  have := h i j (List.mem_range.mp hi) (List.mem_range.mp hj) e
  omega
/-- beginnings or ends of one word -/
def fA (W : Str) (b : Int) (k : Nat) (i : Nat) : Str := if b > 7 then cutS W (some (0 + (i : Int))) none else cutS W none (some (0 + (i : Int) + 9 - (k : Int)))
theorem fA_len {W : Str} {b : Int} {k i : Nat} (hW : W.length = 8) (hk : k ≤ 8) (hi : i < k) : (fA W b k i).length = if b > 7 then 8 - i else i + 9 - k := by
  unfold fA
  by_cases h : b > 7
  · rw [if_pos h, if_pos h, ← len_list, cut_list, List.length_take, List.length_drop, len_list, hW]
    have e : (0 + (i : Int)) = ((i : Nat) : Int) := by omega
    rw [e, HT.sIx_nat]
    show min (8 - min i 8) (8 - min i 8) = 8 - i
    omega
  · rw [if_neg h, if_neg h, ← len_list, cut_list, List.length_take, List.length_drop, len_list, hW]
    have e : (0 + (i : Int) + 9 - (k : Int)) = ((i + 9 - k : Nat) : Int) := by omega
    rw [e, HT.sIx_nat, HT.sIx_none]
    omega
theorem fA_good {W : Str} {b : Int} {k : Nat} (hW : Lw 16 W) (h8 : W.length = 8) (hk : k ≤ 8) : ((List.range k).map (fA W b k)).Nodup ∧ ∀ y ∈ (List.range k).map (fA W b k), nmOk y := by
  refine ⟨map_nodup fun i j hi hj e => ?_, fun y hy => ?_⟩
  · have l1 := fA_len (b := b) h8 hk hi
    have l2 := fA_len (b := b) h8 hk hj
    rw [e, l2] at l1
    split at l1 <;> omega
  · obtain ⟨i, hi, rfl⟩ := List.mem_map.mp hy
    have hi' := List.mem_range.mp hi
    have l := fA_len (b := b) h8 hk hi'
    refine ⟨by rw [l]; split <;> omega, by rw [l]; split <;> omega, ?_⟩
    unfold fA
    split
    · exact (hW.cut _ _).2
    · exact (hW.cut _ _).2
/-- one letter exchanged -/
def fB (z : Str) (r5 r6 b : Int) (i : Nat) : Str := cutS z none (some r5) ++ ⟨#[97 + ((r6 + b * (0 + (i : Int))) % 26).toNat]⟩ ++ cutS z (some r5) none
theorem fB_list (z : Str) (r5 r6 b : Int) (i : Nat) : (fB z r5 r6 b i).cps.toList = (cutS z none (some r5)).cps.toList ++ [97 + ((r6 + b * (0 + (i : Int))) % 26).toNat] ++ (cutS z (some r5) none).cps.toList := by
  unfold fB
  rw [app_list, app_list]
theorem fB_good {z : Str} {r5 r6 b : Int} {k : Nat} (hz : Lw 7 z) (h0 : 0 ≤ r5) (h1 : r5 ≤ z.length) (hb : b = 1 ∨ b = 3 ∨ b = 5) (hk : k ≤ 8) : ((List.range k).map (fB z r5 r6 b)).Nodup ∧ ∀ y ∈ (List.range k).map (fB z r5 r6 b), nmOk y := by
  refine ⟨map_nodup fun i j hi hj e => ?_, fun y hy => ?_⟩
  · have e' : (fB z r5 r6 b i).cps.toList = (fB z r5 r6 b j).cps.toList := by rw [e]
    rw [fB_list, fB_list, List.append_assoc, List.append_assoc] at e'
    have e2 := List.append_cancel_left e'
    have e3 : 97 + ((r6 + b * (0 + (i : Int))) % 26).toNat = 97 + ((r6 + b * (0 + (j : Int))) % 26).toNat := by
      simp only [List.cons_append, List.nil_append, List.cons.injEq] at e2
      exact e2.1
    have p1 := Int.emod_nonneg (r6 + b * (0 + (i : Int))) (b := 26) (by decide)
    have p2 := Int.emod_nonneg (r6 + b * (0 + (j : Int))) (b := 26) (by decide)
    rcases hb with rfl | rfl | rfl <;> omega
  · obtain ⟨i, hi, rfl⟩ := List.mem_map.mp hy
    have l := hz.1
    obtain ⟨n5, rfl⟩ : ∃ n : Nat, r5 = (n : Int) := ⟨r5.toNat, by omega⟩
    have len : (fB z (n5 : Int) r6 b i).length = z.length + 1 := by
      rw [← len_list, fB_list, List.length_append, List.length_append, cut_list, cut_list, List.length_take, List.length_drop, List.length_take, List.length_drop, len_list, HT.sIx_nat, HT.sIx_none, HT.sIx_nat, HT.sIx_none]
      simp only [List.length_cons, List.length_nil]
      omega
    refine ⟨by rw [len]; omega, by rw [len]; omega, fun c hc => ?_⟩
    rw [fB_list] at hc
    have q1 := Int.emod_nonneg (r6 + b * (0 + (i : Int))) (b := 26) (by decide)
    have q2 := Int.emod_lt_of_pos (r6 + b * (0 + (i : Int))) (b := 26) (by decide)
    rcases List.mem_append.mp hc with hc | hc
    · rcases List.mem_append.mp hc with hc | hc
      · exact (hz.cut _ _).2 c hc
      · rw [List.mem_singleton.mp hc]
        unfold lowC
        omega
    · exact (hz.cut _ _).2 c hc
theorem mul8_len (z : Str) (c : Nat) : (cutS (z ++ Txt.mul ⟨#[c]⟩ 8) none (some 8)).length = 8 := by
  rw [mul8, ← len_list, cut_list, List.length_take, List.length_drop, len_list, Str.length_append, HT.sIx_none]
  have e : (8 : Int) = ((8 : Nat) : Int) := rfl
  rw [e, HT.sIx_nat]
  show min (min 8 (z.length + 8) - 0) (z.length + 8 - 0) = 8
  omega
section
variable {P : Program} {w : World} {K : PySem.W.Frag} {mg : Str → Option Value} {base : Heap} {fN : Addr}
def spNamesV : Sp := fun vs H Q _ => ∃ (m l : Addr) (n : Nat) (k : Nat), vs = [.ref m, .int (k : Int)] ∧ Mch H m l n ∧ n < 900000 ∧ 1 ≤ k ∧ k ≤ 8 ∧
  ∀ (p : Addr) (ys : List Str) (l' : Addr) (H' : Hp), H p = none → H' p = some (.lst (ys.map V.str)) → ys.length = k → ys.Nodup → (∀ y ∈ ys, nmOk y) → p ≠ m → p ≠ l' → Mch H' m l' (n + 11) → Fr m l l' H H' → Q (.ref p) H'
theorem ok_namesV {f : Addr} {fd fdN : FuncData} (F : Fun K "_law_names" "_law_names" sNames f fd) (T : TxtN mg fN) (FN : Fun K "_law_next" "_law_next" sNext fN fdN) (bN : Binds K fdN ["m", "many"] []) : FnOk P w K mg base CX0 2 f fd ["m", "many"] spNamesV := by
  have GN : FnOk P w K mg base CX0 1 fN fdN ["m", "many"] spNext := ok_next FN T.toTxt
  refine F.ok scNm (fun vs H Q E h => ?_) (fun cdv A outer s H vs Q E hr h => ?_)
  · obtain ⟨m, l, n, k, rfl, _⟩ := h
    rfl
  · obtain ⟨m, l, n, k, rfl, M, hn, hk, hk2, q⟩ := h
    refine ⟨_, pss_cons (ps_asg (pe_tup (pa_cons pe_str (pa_cons pe_str pa_nil))) (pg_tup rfl (pgs_cons (pg_name (i := 2) scNm.nd rfl (Or.inr rfl)) (pgs_cons (pg_name (i := 3) scNm.nd rfl (Or.inr rfl)) pgs_nil))))
      (pss_cons (ps_for PassesOwn.never rfl (pi_range1 (by rfl) T.range (pa_cons (pe_call GN hr rfl T.next FN.kp bN .nil pass0 (pa_cons (pv 0) (pa_cons pe_int pa_nil))) pa_nil)) (pg_name (i := 4) scNm.nd rfl (Or.inl rfl))
        (pss_one (ps_set (i := 3) scNm.nd rfl (Or.inr rfl) (pe_op op_add_str (pv 3) (pe_ix ix_str (pv 2) (pe_call GN hr rfl T.next FN.kp bN .nil pass0 (pa_cons (pv 0) (pa_cons pe_int pa_nil))) (fun _ _ => rfl))))))
      (pss_cons (ps_asg (pe_tup (pa_cons (pe_call GN hr rfl T.next FN.kp bN .nil pass0 (pa_cons (pv 0) (pa_cons (pe_op op_add (pe_callB call_len_str (by rfl) T.len PySem.boot_len (pa_cons (pv 3) pa_nil)) pe_int) pa_nil)))
          (pa_cons (pe_call GN hr rfl T.next FN.kp bN .nil pass0 (pa_cons (pv 0) (pa_cons pe_int pa_nil)))
          (pa_cons (pe_ix ix_list (pe_lst (pa_cons pe_int (pa_cons pe_int (pa_cons pe_int (pa_cons pe_int (pa_cons pe_int (pa_cons pe_int pa_nil))))))) (pe_call GN hr rfl T.next FN.kp bN .nil pass0 (pa_cons (pv 0) (pa_cons pe_int pa_nil))) (fun _ _ => rfl)) pa_nil))))
        (pg_tup rfl (pgs_cons (pg_name (i := 5) scNm.nd rfl (Or.inr rfl)) (pgs_cons (pg_name (i := 6) scNm.nd rfl (Or.inr rfl)) (pgs_cons (pg_name (i := 7) scNm.nd rfl (Or.inr rfl)) pgs_nil)))))
      (pss_cons (ps_set (i := 8) scNm.nd rfl (Or.inr rfl) (pe_slice sl_str (pe_op op_add_str (pv 3) (pe_op op_mul_si (pe_ix ix_str (pv 2) (pv 6) (fun _ _ => rfl)) pe_int)) po_none (po_some pe_int)))
      (pss_cons (ps_if (pt_cmpR op_gt (pv 7) pe_int (nomark _)) (pss_one (ps_ret (pe_lc (own := [("k", 4)]) (g := gName 4) (by rfl) scNm.nd (pi_range1 (by rfl) T.range (pa_cons (pv 1) pa_nil)) (blkOk_by (own := [("k", 4)]) (N := NN) (sc := defScope sNames) (by decide +kernel))
          (fun _ _ _ _ _ => pg_name (i := 4) scNm.nd rfl (Or.inl rfl)) (fun _ _ _ _ _ => pts_nil) (fun _ _ _ _ _ => pe_ifExp (pt_cmpR op_gt (pv 7) pe_int (nomark _)) (pe_slice sl_str (pv 8) (po_some (pv 4)) po_none) (pe_slice sl_str (pv 8) po_none (po_some (pe_op op_sub (pe_op op_add (pv 4) pe_int) (pv 1)))))))) pss_nil)
      (pss_one (ps_ret (pe_lc (own := [("k", 4)]) (g := gName 4) (by rfl) scNm.nd (pi_range1 (by rfl) T.range (pa_cons (pv 1) pa_nil)) (blkOk_by (own := [("k", 4)]) (N := NN) (sc := defScope sNames) (by decide +kernel))
          (fun _ _ _ _ _ => pg_name (i := 4) scNm.nd rfl (Or.inl rfl)) (fun _ _ _ _ _ => pts_nil) (fun _ _ _ _ _ => pe_op op_add_str (pe_op op_add_str (pe_slice sl_str (pv 3) po_none (po_some (pv 5)))
            (pe_ix ix_str (pv 2) (pe_op op_mod (pe_callTy call_int1 (by rfl) T.int (by decide +kernel) (pa_cons (pe_op op_add (pv 6) (pe_op op_mul (pv 7) (pv 4))) pa_nil)) pe_int) (fun _ _ => rfl))) (pe_slice sl_str (pv 3) (po_some (pv 5)) po_none))))))))), ?_⟩
    refine ⟨(by show 2 ≤ sizeLine; decide), fun p1 h1 => ⟨p1, _, rfl, .inl (.inl upd_same), rfl, _, _, rfl, _, _, rfl, rfl, ?_⟩⟩
    have s1 : Same H _ := Same.upd (o := .tup [.str alpha, .str ""]) h1
    refine ⟨_, rfl, m, l, n, 8, rfl, M.same s1, by omega, by decide, by decide, fun r0 l1 H1 r0p r0l M1 f1 => ?_⟩
    refine ⟨r0, rfl, by omega, by omega, ?_⟩
    refine for_range (lo := 0) (n := r0.toNat) (fun i σ H2 => ∃ (z : Str) (v4 : Option V) (l2 : Addr), σ = [some (.ref m), some (.int (k : Int)), some (.str alpha), some (.str z), v4, none, none, none, none] ∧ Lw i z ∧ Mch H2 m l2 (n + 1 + i) ∧ Fr m l l2 H H2)
      ⟨"", _, l1, rfl, ⟨Nat.le_refl _, fun c hc => by cases hc⟩, M1, Fr.lead s1 f1⟩ ?_ ?_
    · rintro i σ H2 hi ⟨z, v4, l2, rfl, hz, M2, f2⟩
      refine ⟨_, rfl, _, rfl, _, rfl, m, l2, _, 26, rfl, M2, by omega, by decide, by decide, fun r l3 H3 rp rl M3 f3 => ?_⟩
      obtain ⟨hc, hc2⟩ := alpha_at2 rp rl
      refine ⟨alpha, r, _, rfl, rfl, alpha_len, hc, z, _, rfl, rfl, ?_, ?_⟩
      · have := hz.1
        show z.length + 1 ≤ sizeLine
        exact small1000 (by omega)
      · exact ⟨_, _, l3, rfl, hz.app (Lw.sign hc2), M3, f2.trans f3⟩
    · rintro σ H2 ⟨z, v4, l2, rfl, hz, M2, f2⟩
      have z7 := hz.1
      have zs : z.length ≤ sizeLine := Nat.le_of_lt (small1000 (by omega))
      refine ⟨_, rfl, _, rfl, z, rfl, zs, _, _, rfl, rfl, m, l2, _, (z.length : Int) + 1, rfl, M2, by omega, by omega, by omega, fun r5 l3 H3 a5 b5 M3 f3 => ?_⟩
      refine ⟨_, rfl, m, l3, _, 26, rfl, M3, by omega, by decide, by decide, fun r6 l4 H4 a6 b6 M4 f4 => ?_⟩
      refine ⟨(by show 6 ≤ sizeLine; decide), fun pL hL => ?_⟩
      have sL := Same.upd (o := .lst [.int 1, .int 3, .int 5, .int 7, .int 9, .int 11]) hL
      have nL := M4.ne hL
      refine ⟨_, rfl, m, l4, _, 6, rfl, M4.same sL, by omega, by decide, by decide, fun r7 l5 H5 a7 b7 M5 f5 => ?_⟩
      obtain ⟨b, hb, bs, b11⟩ : ∃ b : Int, atI ([.int 1, .int 3, .int 5, .int 7, .int 9, .int 11] : List V) r7 = some (.int b) ∧ (b = 1 ∨ b = 3 ∨ b = 5 ∨ 5 < b) ∧ b ≤ 11 := by
        obtain ⟨j, rfl⟩ : ∃ j : Nat, r7 = (j : Int) := ⟨r7.toNat, by omega⟩
        have hj : j < 6 := by omega
        match j, hj with
        | 0, _ => exact ⟨1, rfl, by omega, by omega⟩
        | 1, _ => exact ⟨3, rfl, by omega, by omega⟩
        | 2, _ => exact ⟨5, rfl, by omega, by omega⟩
        | 3, _ => exact ⟨7, rfl, by omega, by omega⟩
        | 4, _ => exact ⟨9, rfl, by omega, by omega⟩
        | 5, _ => exact ⟨11, rfl, by omega, by omega⟩
      refine ⟨pL, _, r7, .int b, rfl, rfl, SqL.of (f5.keep pL _ upd_same nL.1 nL.2), hb, (by show 3 ≤ sizeLine; decide), fun p3 h3 => ?_⟩
      have F5 : Fr m l l5 H H5 := f2.trans (f3.trans (f4.trans (Fr.lead sL f5)))
      refine ⟨p3, _, rfl, .inl (.inl upd_same), rfl, _, _, rfl, _, _, rfl, _, _, rfl, rfl, ?_⟩
      have s3 := Same.upd (o := .tup [.int r5, .int r6, .int b]) h3
      have M6 := M5.same s3
      have F6 := F5.junk (o := .tup [.int r5, .int r6, .int b]) h3
      obtain ⟨hc6, cc6⟩ := alpha_at2 a6 b6
      obtain ⟨c6, ec6⟩ : ∃ c6, c6 = 97 + r6.toNat := ⟨_, rfl⟩
      rw [← ec6] at hc6 cc6
      refine ⟨_, rfl, _, rfl, _, rfl, alpha, r6, c6, rfl, rfl, alpha_len, hc6, _, 8, rfl, rfl, mul8_ok c6, z, _, rfl, rfl, ?_, 8, rfl, _, rfl, ?_, ?_⟩
      · rw [mul8]
        show z.length + 8 ≤ sizeLine
        exact Nat.le_of_lt (small1000 (by omega))
      · rw [mul8, Str.length_append]
        show z.length + 8 ≤ sizeLine
        exact Nat.le_of_lt (small1000 (by omega))
      obtain ⟨W, hW, eW⟩ : ∃ W, Lw 16 W ∧ W = cutS (z ++ Txt.mul { cps := #[c6] } 8) none (some 8) := ⟨_, by
        rw [mul8]
        exact (((hz.mono (show r0.toNat ≤ 7 by omega)).app (b := 8) ⟨by show 8 ≤ 8; decide, fun d hd => by simp at hd; rw [hd]; exact cc6⟩).mono (by decide)).cut _ _, rfl⟩
      rw [← eW]
      have W8 : W.length = 8 := by rw [eW]; exact mul8_len z c6
      have Wl : W.length ≤ sizeLine := Nat.le_trans hW.1 (by decide)
      have ek : ((k : Int)).toNat = k := by omega
      refine ⟨_, rfl, _, _, rfl, rfl, _, rfl, ite2 (fun hb5 => ?_) (fun hb5 => ?_)⟩
      · refine ⟨_, rfl, (k : Int), rfl, by omega, by omega, fun D hD => ?_⟩
        have nD := M6.ne hD
        refine lc_range (lo := 0) (n := ((k : Int)).toNat) (fun i H9 => H9 = upd _ D (.lst (((List.range i).map (fA W b k)).map V.str))) rfl ?_ ?_
        · rintro i H9 hi e9
          have li : ((List.range i).map (fA W b k)).length = i := by rw [List.length_map, List.length_range]
          have gr : ∀ y, y = fA W b k i → upd H9 D (.lst (((List.range i).map (fA W b k)).map V.str ++ [.str y])) = upd (upd H5 p3 (.tup [.int r5, .int r6, .int b])) D (.lst (((List.range (i + 1)).map (fA W b k)).map V.str)) := fun y ey => by
            rw [str_grow e9, ey]; simp only [List.range_succ, List.map_append]; rfl
          refine ⟨rfl, tyes ?_⟩
          refine ⟨_, rfl, _, _, rfl, rfl, _, rfl, ite2 (fun h7 => ?_) (fun h7 => ?_)⟩
          · exact ⟨_, rfl, _, rfl, _, rfl, _, rfl, Wl, _, by rw [e9]; exact upd_same, small1000 (by rw [List.length_map, li]; omega), gr _ (by unfold fA; rw [if_pos (show b > 7 from of_decide_eq_true h7)])⟩
          · exact ⟨_, rfl, _, rfl, _, _, rfl, rfl, _, rfl, _, _, rfl, rfl, _, rfl, _, rfl, Wl, _, by rw [e9]; exact upd_same, small1000 (by rw [List.length_map, li]; omega), gr _ (by unfold fA; rw [if_neg (show ¬ b > 7 from fun z => h7 (decide_eq_true z))])⟩
        · rintro H9 e9
          rw [ek] at e9
          obtain ⟨g1, g2⟩ := fA_good (b := b) hW W8 hk2
          have sD := Same.upd (o := .lst (((List.range k).map (fA W b k)).map V.str)) hD
          rw [e9]
          exact q D _ l5 _ (F6.free hD) upd_same (by rw [List.length_map, List.length_range]) g1 g2 nD.1 nD.2 ((M6.same sD).mono (by omega)) (F6.junk hD)
      · refine ⟨_, rfl, (k : Int), rfl, by omega, by omega, fun D hD => ?_⟩
        have nD := M6.ne hD
        have hz7 : Lw 7 z := hz.mono (by omega)
        have z7o := hz7.ok
        refine lc_range (lo := 0) (n := ((k : Int)).toNat) (fun i H9 => H9 = upd _ D (.lst (((List.range i).map (fB z r5 r6 b)).map V.str))) rfl ?_ ?_
        · rintro i H9 hi e9
          have li : ((List.range i).map (fB z r5 r6 b)).length = i := by rw [List.length_map, List.length_range]
          have nb5 : ¬ (5 < b) := fun z => hb5 (decide_eq_true z)
          have b15 : 1 ≤ b ∧ b ≤ 11 := by omega
          obtain ⟨hc9, cc9⟩ := alpha_at2 (i := (r6 + b * (0 + (i : Int))) % 26) (Int.emod_nonneg _ (by decide)) (Int.emod_lt_of_pos _ (by decide))
          have p1 := (hz7.cut none (some r5))
          have p2 := (p1.app (Lw.sign cc9))
          have p3' := (hz7.cut (some r5) none)
          refine ⟨rfl, tyes ?_⟩
          refine ⟨_, rfl, _, rfl, _, rfl, _, rfl, zs, _, rfl, _, rfl, _, rfl, _, rfl, _, _, rfl, rfl, .inr ⟨by omega, by omega⟩, _, _, rfl, rfl, .inl ⟨_, rfl, _, _, rfl, rfl, (by show (0 : Int) < 26; decide), ?_⟩⟩
          refine ⟨alpha, _, _, rfl, rfl, alpha_len, hc9, _, _, rfl, rfl, ?_, _, rfl, _, rfl, _, rfl, _, rfl, zs, _, _, rfl, rfl, ?_, _, by rw [e9]; exact upd_same, small1000 (by rw [List.length_map, li]; omega), ?_⟩
          · have := p1.1
            show _ + 1 ≤ sizeLine
            exact Nat.le_of_lt (small1000 (by omega))
          · have := p2.1
            have := p3'.1
            exact Nat.le_of_lt (small1000 (by omega))
          · rw [str_grow e9]; simp only [List.range_succ, List.map_append]; rfl
        · rintro H9 e9
          rw [ek] at e9
          obtain ⟨g1, g2⟩ := fB_good (r5 := r5) (r6 := r6) (b := b) hz7 a5 (by omega) (by have nb5 : ¬ (5 < b) := fun z => hb5 (decide_eq_true z); omega) hk2
          have sD := Same.upd (o := .lst (((List.range k).map (fB z r5 r6 b)).map V.str)) hD
          rw [e9]
          exact q D _ l5 _ (F6.free hD) upd_same (by rw [List.length_map, List.length_range]) g1 g2 nD.1 nD.2 ((M6.same sD).mono (by omega)) (F6.junk hD)
end
end Ms
namespace Ms
open PySem PySem.Spec PyProof.Rows L2
/-! ### drawn settings are settings -/
theorem nm_name {z : Str} (h : nmOk z) : isName (.str z) = true := by
  obtain ⟨h1, h2, h3⟩ := h
  show ((decide (1 ≤ z.length) && decide (z.length ≤ 8)) && z.cps.toList.all fun c => decide (c ∈ alpha.cps.toList)) = true
  have ef : (fun c => decide (c ∈ alpha.cps.toList)) = lowB := funext lowB_alpha
  rw [decide_eq_true h1, decide_eq_true h2, ef, Bool.and_true, Bool.true_and, List.all_eq_true]
  intro c hc
  obtain ⟨a, b⟩ := h3 c hc
  unfold lowB
  rw [decide_eq_true a, decide_eq_true b]; rfl
theorem due_all : ∀ (qs : List (Str × Int)) (p : Nat) (seen : List Str) (mn : Int), (∀ q ∈ qs, isName (.str q.1) = true ∧ 1 ≤ q.2 ∧ q.2 ≤ 3) → (∀ q ∈ qs, q.1 ∉ seen) → (qs.map (·.1)).Nodup → dueGo p seen mn (prD qs) = .inr (qs.foldl (fun m q => m * (q.2 + 1)) mn)
  | [], p, seen, mn, _, _, _ => rfl
  | q :: qs, p, seen, mn, h, hs, hn => by
    obtain ⟨h1, h2, h3⟩ := h q (List.mem_cons_self ..)
    have hw : isWhole (.int q.2) 1 3 = true := by show (decide (1 ≤ q.2) && decide (q.2 ≤ 3)) = true; rw [decide_eq_true h2, decide_eq_true h3]; rfl
    have eo : oneD (.tuple [.str q.1, .int q.2]) = some (q.1, q.2) := by simp only [oneD]; rw [h1, hw]; rfl
    have nq := hs q (List.mem_cons_self ..)
    rw [List.map_cons, List.nodup_cons] at hn
    show dueGo p seen mn (.tuple [.str q.1, .int q.2] :: prD qs) = _
    simp only [dueGo, eo, if_neg nq]
    rw [due_all qs (p + 1) (seen ++ [q.1]) (mn * (q.2 + 1)) (fun x hx => h x (List.mem_cons_of_mem _ hx)) (fun x hx z => ?_) hn.2]
    · rfl
    · rcases List.mem_append.mp z with z | z
      · exact hs x (List.mem_cons_of_mem _ hx) z
      · have e : x.1 = q.1 := List.mem_singleton.mp z
        exact hn.1 (by rw [← e]; exact List.mem_map_of_mem hx)
/-- settings, as pairs -/
structure SetOk (ys : List (Str × Int)) : Prop where
  len1 : 1 ≤ ys.length
  len3 : ys.length ≤ 3
  nm : ∀ q ∈ ys, nmOk q.1
  most : ∀ q ∈ ys, 1 ≤ q.2 ∧ q.2 ≤ 3
  nodup : (ys.map (·.1)).Nodup
  few : many ys ≤ 12
theorem prD_len (ys : List (Str × Int)) : (prD ys).length = ys.length := by unfold prD; exact List.length_map ..
theorem SetOk.need {ys : List (Str × Int)} (s : SetOk ys) : needV (.tuple (prD ys)) = none := by
  have e := due_all ys 0 [] 1 (fun q hq => ⟨nm_name (s.nm q hq), s.most q hq⟩) (fun q _ z => nomatch z) s.nodup
  unfold needV
  simp only [prD_len, if_pos (And.intro s.len1 s.len3), e]
  have f := s.few
  unfold many at f
  rw [if_pos f]
theorem SetOk.okP {ys : List (Str × Int)} (s : SetOk ys) : okP ys := fun q hq => ⟨(s.nm q hq).ok, s.most q hq⟩
theorem zip_many : ∀ (ys : List Str) (ms : List Int) (i : Int), ys.length = ms.length → (ys.zip ms).foldl (fun m q => m * (q.2 + 1)) i = ms.foldl (fun m x => m * (x + 1)) i
  | [], [], _, _ => rfl
  | y :: ys, x :: ms, i, h => zip_many ys ms (i * (x + 1)) (by simpa using h)
  | [], _ :: _, _, h => by simp at h
  | _ :: _, [], _, h => by simp at h
theorem zip_fst : ∀ (ys : List Str) (ms : List Int), ys.length = ms.length → (ys.zip ms).map (·.1) = ys
  | [], [], _ => rfl
  | y :: ys, x :: ms, h => by
    show y :: (ys.zip ms).map (·.1) = y :: ys
    rw [zip_fst ys ms (by simpa using h)]
  | [], _ :: _, h => by simp at h
  | _ :: _, [], h => by simp at h
/-- how often each may stand: one to three small ints -/
def MoV (H : Hp) (a : Addr) : Prop := ∃ ms : List Int, H a = some (.tup (ms.map V.int)) ∧ 1 ≤ ms.length ∧ ms.length ≤ 3 ∧ (∀ x ∈ ms, 1 ≤ x ∧ x ≤ 3) ∧ ms.foldl (fun m x => m * (x + 1)) 1 ≤ 12
theorem MoV.same {H H' : Hp} {a : Addr} (s : Same H H') (h : MoV H a) : MoV H' a := by
  obtain ⟨ms, e, r⟩ := h
  exact ⟨ms, s _ _ e, r⟩
section
variable {P : Program} {w : World} {K : PySem.W.Frag} {mg : Str → Option Value} {base : Heap} {fN fM : Addr}
def spSettingsV : Sp := fun vs H Q _ => ∃ (m l : Addr) (n : Nat), vs = [.ref m] ∧ Mch H m l n ∧ n < 800000 ∧
  ∀ (p : Addr) (as : List Addr) (ys : List (Str × Int)) (l' : Addr) (H' : Hp), H' p = some (.tup (as.map V.ref)) → Prs H' as ys → SetOk ys → Mch H' m l' (n + 12) → Fr m l l' H H' → Q (.ref p) H'
theorem ok_settingsV {f : Addr} {fd fdN fdM : FuncData} (F : Fun K "_law_settings" "_law_settings" sSettings f fd) (T : TxtS mg fN fM) (FN : Fun K "_law_next" "_law_next" sNext fN fdN) (bN : Binds K fdN ["m", "many"] [])
    (FM : Fun K "_law_names" "_law_names" sNames fM fdM) (bM : Binds K fdM ["m", "many"] []) : FnOk P w K mg base CX0 3 f fd ["m"] spSettingsV := by
  have GN : FnOk P w K mg base CX0 2 fN fdN ["m", "many"] spNext := (ok_next FN T.toTxt).mono (by decide)
  have GM : FnOk P w K mg base CX0 2 fM fdM ["m", "many"] spNamesV := ok_namesV FM T.toTxtN FN bN
  refine F.ok scSt (fun vs H Q E h => ?_) (fun cdv A outer s H vs Q E hr h => ?_)
  · obtain ⟨m, l, n, rfl, _⟩ := h
    rfl
  · obtain ⟨m, l, n, rfl, M, hn, q⟩ := h
    refine ⟨_, pss_cons (ps_set (i := 1) scSt.nd rfl (by first | exact Or.inl rfl | exact Or.inr rfl) (pe_lst (pa_cons (pe_tup (pa_cons pe_int pa_nil)) (pa_cons (pe_tup (pa_cons pe_int pa_nil)) (pa_cons (pe_tup (pa_cons pe_int pa_nil)) (pa_cons (pe_tup (pa_cons pe_int (pa_cons pe_int pa_nil))) (pa_cons (pe_tup (pa_cons pe_int (pa_cons pe_int pa_nil))) (pa_cons (pe_tup (pa_cons pe_int (pa_cons pe_int pa_nil))) (pa_cons (pe_tup (pa_cons pe_int (pa_cons pe_int pa_nil))) (pa_cons (pe_tup (pa_cons pe_int (pa_cons pe_int pa_nil))) (pa_cons (pe_tup (pa_cons pe_int (pa_cons pe_int pa_nil))) (pa_cons (pe_tup (pa_cons pe_int (pa_cons pe_int (pa_cons pe_int pa_nil)))) (pa_cons (pe_tup (pa_cons pe_int (pa_cons pe_int (pa_cons pe_int pa_nil)))) (pa_cons (pe_tup (pa_cons pe_int (pa_cons pe_int (pa_cons pe_int pa_nil)))) pa_nil))))))))))))))
      (pss_cons (ps_set (i := 2) scSt.nd rfl (by first | exact Or.inl rfl | exact Or.inr rfl) (pe_ix ix_list (pv 1) (pe_call GN hr rfl T.next FN.kp bN .nil pass0 (pa_cons (pv 0) (pa_cons pe_int pa_nil))) (fun _ _ => rfl)))
      (pss_one (ps_ret (pe_callTy call_tuple_of (by rfl) T.tuple (by decide +kernel) (pa_cons (pe_lc (own := [("name", 3), ("most", 4)]) (g := gTup K 2 (gCons (gName 3) (gCons (gName 4) gNil))) (by rfl) scSt.nd
        (pi_zm (by rfl) T.zip (pa_cons (pe_call GM hr rfl T.names FM.kp bM .nil pass0 (pa_cons (pv 0) (pa_cons (pe_callB call_len (by rfl) T.len PySem.boot_len (pa_cons (pv 2) pa_nil)) pa_nil))) (pa_cons (pv 2) pa_nil)))
        (blkOk_by (own := [("name", 3), ("most", 4)]) (N := NS) (sc := defScope sSettings) (by decide +kernel))
        (fun _ _ _ _ _ => pg_tup rfl (pgs_cons (pg_name (i := 3) scSt.nd rfl (Or.inl rfl)) (pgs_cons (pg_name (i := 4) scSt.nd rfl (Or.inl rfl)) pgs_nil))) (fun _ _ _ _ _ => pts_nil)
        (fun _ _ _ _ _ => pe_tup (pa_cons (pv 3) (pa_cons (pv 4) pa_nil)))) pa_nil))))), ?_⟩
    refine ⟨(by show 1 ≤ sizeLine; decide), fun p1 h1 => ?_⟩
    obtain ⟨G1, e1⟩ : ∃ G, G = upd H p1 (.tup [.int 1]) := ⟨_, rfl⟩
    rw [← e1]
    have s1 : Same H G1 := e1 ▸ Same.upd h1
    have M1 := M.same s1
    have f1 : Fr m l l H G1 := e1 ▸ (Fr.refl M).junk h1
    have a1_1 : MoV G1 p1 := ⟨[1], by rw [e1, upd_same]; rfl, by decide, by decide, by decide, by decide⟩
    refine ⟨(by show 1 ≤ sizeLine; decide), fun p2 h2 => ?_⟩
    obtain ⟨G2, e2⟩ : ∃ G, G = upd G1 p2 (.tup [.int 2]) := ⟨_, rfl⟩
    rw [← e2]
    have s2 : Same G1 G2 := e2 ▸ Same.upd h2
    have M2 := M1.same s2
    have f2 : Fr m l l H G2 := e2 ▸ f1.junk h2
    have a2_2 : MoV G2 p2 := ⟨[2], by rw [e2, upd_same]; rfl, by decide, by decide, by decide, by decide⟩
    have a1_2 := a1_1.same s2
    refine ⟨(by show 1 ≤ sizeLine; decide), fun p3 h3 => ?_⟩
    obtain ⟨G3, e3⟩ : ∃ G, G = upd G2 p3 (.tup [.int 3]) := ⟨_, rfl⟩
    rw [← e3]
    have s3 : Same G2 G3 := e3 ▸ Same.upd h3
    have M3 := M2.same s3
    have f3 : Fr m l l H G3 := e3 ▸ f2.junk h3
    have a3_3 : MoV G3 p3 := ⟨[3], by rw [e3, upd_same]; rfl, by decide, by decide, by decide, by decide⟩
    have a1_3 := a1_2.same s3
    have a2_3 := a2_2.same s3
    refine ⟨(by show 2 ≤ sizeLine; decide), fun p4 h4 => ?_⟩
    obtain ⟨G4, e4⟩ : ∃ G, G = upd G3 p4 (.tup [.int 1, .int 1]) := ⟨_, rfl⟩
    rw [← e4]
    have s4 : Same G3 G4 := e4 ▸ Same.upd h4
    have M4 := M3.same s4
    have f4 : Fr m l l H G4 := e4 ▸ f3.junk h4
    have a4_4 : MoV G4 p4 := ⟨[1, 1], by rw [e4, upd_same]; rfl, by decide, by decide, by decide, by decide⟩
    have a1_4 := a1_3.same s4
    have a2_4 := a2_3.same s4
    have a3_4 := a3_3.same s4
    refine ⟨(by show 2 ≤ sizeLine; decide), fun p5 h5 => ?_⟩
    obtain ⟨G5, e5⟩ : ∃ G, G = upd G4 p5 (.tup [.int 1, .int 2]) := ⟨_, rfl⟩
    rw [← e5]
    have s5 : Same G4 G5 := e5 ▸ Same.upd h5
    have M5 := M4.same s5
    have f5 : Fr m l l H G5 := e5 ▸ f4.junk h5
    have a5_5 : MoV G5 p5 := ⟨[1, 2], by rw [e5, upd_same]; rfl, by decide, by decide, by decide, by decide⟩
    have a1_5 := a1_4.same s5
    have a2_5 := a2_4.same s5
    have a3_5 := a3_4.same s5
    have a4_5 := a4_4.same s5
    refine ⟨(by show 2 ≤ sizeLine; decide), fun p6 h6 => ?_⟩
    obtain ⟨G6, e6⟩ : ∃ G, G = upd G5 p6 (.tup [.int 2, .int 1]) := ⟨_, rfl⟩
    rw [← e6]
    have s6 : Same G5 G6 := e6 ▸ Same.upd h6
    have M6 := M5.same s6
    have f6 : Fr m l l H G6 := e6 ▸ f5.junk h6
    have a6_6 : MoV G6 p6 := ⟨[2, 1], by rw [e6, upd_same]; rfl, by decide, by decide, by decide, by decide⟩
    have a1_6 := a1_5.same s6
    have a2_6 := a2_5.same s6
    have a3_6 := a3_5.same s6
    have a4_6 := a4_5.same s6
    have a5_6 := a5_5.same s6
    refine ⟨(by show 2 ≤ sizeLine; decide), fun p7 h7 => ?_⟩
    obtain ⟨G7, e7⟩ : ∃ G, G = upd G6 p7 (.tup [.int 2, .int 2]) := ⟨_, rfl⟩
    rw [← e7]
    have s7 : Same G6 G7 := e7 ▸ Same.upd h7
    have M7 := M6.same s7
    have f7 : Fr m l l H G7 := e7 ▸ f6.junk h7
    have a7_7 : MoV G7 p7 := ⟨[2, 2], by rw [e7, upd_same]; rfl, by decide, by decide, by decide, by decide⟩
    have a1_7 := a1_6.same s7
    have a2_7 := a2_6.same s7
    have a3_7 := a3_6.same s7
    have a4_7 := a4_6.same s7
    have a5_7 := a5_6.same s7
    have a6_7 := a6_6.same s7
    refine ⟨(by show 2 ≤ sizeLine; decide), fun p8 h8 => ?_⟩
    obtain ⟨G8, e8⟩ : ∃ G, G = upd G7 p8 (.tup [.int 1, .int 3]) := ⟨_, rfl⟩
    rw [← e8]
    have s8 : Same G7 G8 := e8 ▸ Same.upd h8
    have M8 := M7.same s8
    have f8 : Fr m l l H G8 := e8 ▸ f7.junk h8
    have a8_8 : MoV G8 p8 := ⟨[1, 3], by rw [e8, upd_same]; rfl, by decide, by decide, by decide, by decide⟩
    have a1_8 := a1_7.same s8
    have a2_8 := a2_7.same s8
    have a3_8 := a3_7.same s8
    have a4_8 := a4_7.same s8
    have a5_8 := a5_7.same s8
    have a6_8 := a6_7.same s8
    have a7_8 := a7_7.same s8
    refine ⟨(by show 2 ≤ sizeLine; decide), fun p9 h9 => ?_⟩
    obtain ⟨G9, e9⟩ : ∃ G, G = upd G8 p9 (.tup [.int 3, .int 2]) := ⟨_, rfl⟩
    rw [← e9]
    have s9 : Same G8 G9 := e9 ▸ Same.upd h9
    have M9 := M8.same s9
    have f9 : Fr m l l H G9 := e9 ▸ f8.junk h9
    have a9_9 : MoV G9 p9 := ⟨[3, 2], by rw [e9, upd_same]; rfl, by decide, by decide, by decide, by decide⟩
    have a1_9 := a1_8.same s9
    have a2_9 := a2_8.same s9
    have a3_9 := a3_8.same s9
    have a4_9 := a4_8.same s9
    have a5_9 := a5_8.same s9
    have a6_9 := a6_8.same s9
    have a7_9 := a7_8.same s9
    have a8_9 := a8_8.same s9
    refine ⟨(by show 3 ≤ sizeLine; decide), fun p10 h10 => ?_⟩
    obtain ⟨G10, e10⟩ : ∃ G, G = upd G9 p10 (.tup [.int 1, .int 1, .int 1]) := ⟨_, rfl⟩
    rw [← e10]
    have s10 : Same G9 G10 := e10 ▸ Same.upd h10
    have M10 := M9.same s10
    have f10 : Fr m l l H G10 := e10 ▸ f9.junk h10
    have a10_10 : MoV G10 p10 := ⟨[1, 1, 1], by rw [e10, upd_same]; rfl, by decide, by decide, by decide, by decide⟩
    have a1_10 := a1_9.same s10
    have a2_10 := a2_9.same s10
    have a3_10 := a3_9.same s10
    have a4_10 := a4_9.same s10
    have a5_10 := a5_9.same s10
    have a6_10 := a6_9.same s10
    have a7_10 := a7_9.same s10
    have a8_10 := a8_9.same s10
    have a9_10 := a9_9.same s10
    refine ⟨(by show 3 ≤ sizeLine; decide), fun p11 h11 => ?_⟩
    obtain ⟨G11, e11⟩ : ∃ G, G = upd G10 p11 (.tup [.int 1, .int 2, .int 1]) := ⟨_, rfl⟩
    rw [← e11]
    have s11 : Same G10 G11 := e11 ▸ Same.upd h11
    have M11 := M10.same s11
    have f11 : Fr m l l H G11 := e11 ▸ f10.junk h11
    have a11_11 : MoV G11 p11 := ⟨[1, 2, 1], by rw [e11, upd_same]; rfl, by decide, by decide, by decide, by decide⟩
    have a1_11 := a1_10.same s11
    have a2_11 := a2_10.same s11
    have a3_11 := a3_10.same s11
    have a4_11 := a4_10.same s11
    have a5_11 := a5_10.same s11
    have a6_11 := a6_10.same s11
    have a7_11 := a7_10.same s11
    have a8_11 := a8_10.same s11
    have a9_11 := a9_10.same s11
    have a10_11 := a10_10.same s11
    refine ⟨(by show 3 ≤ sizeLine; decide), fun p12 h12 => ?_⟩
    obtain ⟨G12, e12⟩ : ∃ G, G = upd G11 p12 (.tup [.int 1, .int 1, .int 2]) := ⟨_, rfl⟩
    rw [← e12]
    have s12 : Same G11 G12 := e12 ▸ Same.upd h12
    have M12 := M11.same s12
    have f12 : Fr m l l H G12 := e12 ▸ f11.junk h12
    have a12_12 : MoV G12 p12 := ⟨[1, 1, 2], by rw [e12, upd_same]; rfl, by decide, by decide, by decide, by decide⟩
    have a1_12 := a1_11.same s12
    have a2_12 := a2_11.same s12
    have a3_12 := a3_11.same s12
    have a4_12 := a4_11.same s12
    have a5_12 := a5_11.same s12
    have a6_12 := a6_11.same s12
    have a7_12 := a7_11.same s12
    have a8_12 := a8_11.same s12
    have a9_12 := a9_11.same s12
    have a10_12 := a10_11.same s12
    have a11_12 := a11_11.same s12
    refine ⟨(by show 12 ≤ sizeLine; decide), fun D hD => ?_⟩
    obtain ⟨G, eG⟩ : ∃ G, G = upd G12 D (.lst [.ref p1, .ref p2, .ref p3, .ref p4, .ref p5, .ref p6, .ref p7, .ref p8, .ref p9, .ref p10, .ref p11, .ref p12]) := ⟨_, rfl⟩
    rw [← eG]
    have sG : Same G12 G := eG ▸ Same.upd hD
    have nD := M12.ne hD
    have MG := M12.same sG
    have fG : Fr m l l H G := eG ▸ f12.junk hD
    have gD : G D = some (.lst [.ref p1, .ref p2, .ref p3, .ref p4, .ref p5, .ref p6, .ref p7, .ref p8, .ref p9, .ref p10, .ref p11, .ref p12]) := by rw [eG, upd_same]
    have pick : ∀ r : Int, 0 ≤ r → r < 12 → ∃ a, atI ([.ref p1, .ref p2, .ref p3, .ref p4, .ref p5, .ref p6, .ref p7, .ref p8, .ref p9, .ref p10, .ref p11, .ref p12] : List V) r = some (.ref a) ∧ MoV G a := by
      intro r h0 h1
      obtain ⟨j, rfl⟩ : ∃ j : Nat, r = (j : Int) := ⟨r.toNat, by omega⟩
      have hj : j < 12 := by omega
      match j, hj with
      | 0, _ => exact ⟨p1, rfl, a1_12.same sG⟩
      | 1, _ => exact ⟨p2, rfl, a2_12.same sG⟩
      | 2, _ => exact ⟨p3, rfl, a3_12.same sG⟩
      | 3, _ => exact ⟨p4, rfl, a4_12.same sG⟩
      | 4, _ => exact ⟨p5, rfl, a5_12.same sG⟩
      | 5, _ => exact ⟨p6, rfl, a6_12.same sG⟩
      | 6, _ => exact ⟨p7, rfl, a7_12.same sG⟩
      | 7, _ => exact ⟨p8, rfl, a8_12.same sG⟩
      | 8, _ => exact ⟨p9, rfl, a9_12.same sG⟩
      | 9, _ => exact ⟨p10, rfl, a10_12.same sG⟩
      | 10, _ => exact ⟨p11, rfl, a11_12.same sG⟩
      | 11, _ => exact ⟨p12, rfl, a12_12.same sG⟩
    clear e1 s1 M1 f1 e2 s2 M2 f2 e3 s3 M3 f3 e4 s4 M4 f4 e5 s5 M5 f5 e6 s6 M6 f6 e7 s7 M7 f7 e8 s8 M8 f8 e9 s9 M9 f9 e10 s10 M10 f10 e11 s11 M11 f11 a1_1 a1_2 a2_2 a1_3 a2_3 a3_3 a1_4 a2_4 a3_4 a4_4 a1_5 a2_5 a3_5 a4_5 a5_5 a1_6 a2_6 a3_6 a4_6 a5_6 a6_6 a1_7 a2_7 a3_7 a4_7 a5_7 a6_7 a7_7 a1_8 a2_8 a3_8 a4_8 a5_8 a6_8 a7_8 a8_8 a1_9 a2_9 a3_9 a4_9 a5_9 a6_9 a7_9 a8_9 a9_9 a1_10 a2_10 a3_10 a4_10 a5_10 a6_10 a7_10 a8_10 a9_10 a10_10 a1_11 a2_11 a3_11 a4_11 a5_11 a6_11 a7_11 a8_11 a9_11 a10_11 a11_11 a1_12 a2_12 a3_12 a4_12 a5_12 a6_12 a7_12 a8_12 a9_12 a10_12 a11_12 a12_12
    refine ⟨_, rfl, _, rfl, m, l, n, 12, rfl, MG, by omega, by decide, by decide, fun r l1 H1 r0 r1 M1 f1' => ?_⟩
    obtain ⟨a, ha, mo⟩ := pick r r0 r1
    refine ⟨D, _, r, .ref a, rfl, rfl, SqL.of (f1'.keep D _ gD nD.1 nD.2), ha, ?_⟩
    obtain ⟨ms, hms, ml1, ml3, msok, mfew⟩ := mo
    have am : a ≠ m ∧ a ≠ l := by
      obtain ⟨c, cs, ls, z, dm, dc, dl, _⟩ := MG.ex
      exact ⟨ne_of hms dm (by intro q; cases q), ne_of hms dl (by intro q; cases q)⟩
    have ka : H1 a = some (.tup (ms.map V.int)) := f1'.keep a _ hms am.1 am.2
    have F1 : Fr m l l1 H H1 := fG.trans f1'
    clear pick gD eG sG MG fG hD e12 s12 M12 f12 h12 h11 h10 h9 h8 h7 h6 h5 h4 h3 h2 h1 ha f1' hms
    have lenA : ((ms.map V.int).length : Nat) = ms.length := List.length_map ..
    refine ⟨_, rfl, _, rfl, _, _, rfl, .inr ⟨_, SqT.of ka, rfl⟩, ?_⟩
    refine ⟨m, l1, n + 1, (ms.map V.int).length, rfl, M1, by omega, by omega, by omega, fun N ys l2 H2 hN gN yl yn yo nm nl M2 f2 => ?_⟩
    have F2 := F1.trans f2
    have ka2 : H2 a = some (.tup (ms.map V.int)) := f2.keep a _ ka am.1 (by
      obtain ⟨c, cs, ls, z, dm, dc, dl, _⟩ := M1.ex
      exact ne_of ka dl (by intro q; cases q))
    refine ⟨_, rfl, N, a, _, _, rfl, SqL.of gN, .inl (.inl ka2), fun D2 hD2 => ?_⟩
    have yl' : ys.length = ms.length := yl.trans lenA
    refine lc_it (walk_zm (xs := ys.map V.str) (ys := ms.map V.int) (n := ms.length) (by simp [yl'])) (fun i H3 => ∃ as : List Addr, as.length = i ∧ Prs H3 as ((ys.zip ms).take i) ∧ (∀ b ∈ as, b ≠ D2) ∧ H3 D2 = some (.lst (as.map V.ref)) ∧ Same H2 H3)
      ⟨[], rfl, .nil, (fun _ hb => nomatch hb), upd_same, Same.upd hD2⟩ (fun i H3 _ ⟨as, _, _, _, _, s3⟩ => ⟨SqL.of (s3 _ _ gN), SqT.of (s3 _ _ ka2)⟩) ?_ ?_
    · rintro i x H3 H4 hi ⟨as, al, pr, nd, gd, s3⟩ ⟨T, x1, x2, rfl, hT, rfl, e1, e2⟩
      have hy : i < ys.length := by omega
      have e1' : x1 = .str ys[i] := by simp [hy] at e1; exact e1.symm
      have e2' : x2 = .int ms[i] := by simp [hi] at e2; exact e2.symm
      subst e1' e2'
      refine ⟨T, _, rfl, .inl (.inl upd_same), rfl, _, _, rfl, _, _, rfl, rfl, rfl, tyes ?_⟩
      refine ⟨_, rfl, _, rfl, (by show 2 ≤ sizeLine; decide), fun p hp => ?_⟩
      have sT : Same H3 (upd H3 T (.tup [.str ys[i], .int ms[i]])) := Same.upd hT
      have sp : Same (upd H3 T (.tup [.str ys[i], .int ms[i]])) (upd (upd H3 T (.tup [.str ys[i], .int ms[i]])) p (.tup [.str ys[i], .int ms[i]])) := Same.upd hp
      have nDp : p ≠ D2 := fun e => by rw [e, sT _ _ gd] at hp; cases hp
      refine ⟨_, sp _ _ (sT _ _ gd), small1000 (by rw [List.length_map]; omega), as ++ [p], by simp [al], ?_, ?_, ?_, ?_⟩
      · rw [List.take_succ]
        have ez : (ys.zip ms)[i]? = some (ys[i], ms[i]) := by rw [List.getElem?_zip_eq_some]; exact ⟨List.getElem?_eq_getElem hy, List.getElem?_eq_getElem hi⟩
        rw [ez]
        refine Prs.snoc (Prs.same (fun b o hb e => ?_) pr) ?_
        · rw [upd_ne (nd b hb)]; exact sp _ _ (sT _ _ e)
        · rw [upd_ne nDp, upd_same]
      · intro b hb
        rcases List.mem_append.mp hb with hb | hb
        · exact nd b hb
        · rw [List.mem_singleton.mp hb]; exact nDp
      · rw [upd_same, List.map_append]; rfl
      · intro b o e
        have nb : b ≠ D2 := ne_of_none e hD2
        rw [upd_ne nb]; exact sp _ _ (sT _ _ (s3 _ _ e))
    · rintro H3 ⟨as, al, pr, nd, gd, s3⟩
      have lz : (ys.zip ms).length = ms.length := by simp [yl']
      rw [List.take_of_length_le (by omega)] at pr
      refine ⟨D2, _, rfl, .inl ⟨SqL.of gd, fun p hp => ?_⟩⟩
      have sp : Same H3 (upd H3 p (.tup (as.map V.ref))) := Same.upd hp
      have so : SetOk (ys.zip ms) := by
        refine ⟨by omega, by omega, fun y hy => yo _ (List.of_mem_zip hy).1, fun y hy => msok _ (List.of_mem_zip hy).2, by rw [zip_fst ys ms yl']; exact yn, ?_⟩
        unfold many
        rw [zip_many ys ms 1 yl']; exact mfew
      exact q p as (ys.zip ms) l2 _ upd_same (pr.same fun b o _ e => sp b o e) so ((((M2.same s3).same sp)).mono (by omega)) ((F2.trail s3).trail sp)
end
end Ms
namespace Ms
open PySem PySem.Spec PyProof.Rows L2 RZ
/-! ### is_standing, need_standing of the package -/
theorem walk_zt {K : PySem.W.Frag} {a b : Addr} {xs ys : List V} {n : Nat} (hn : n = min xs.length ys.length) : Walk (ItzT K a b) n (fun H => SqT K H a xs ∧ SqT K H b ys) (YPair (fun i => xs[i]?) (fun i => ys[i]?)) := by
  subst hn
  refine ⟨fun i H hi q => ?_, fun H q => ?_, fun i H x H' hi q y => ?_⟩
  · have h1 : i < xs.length := by omega
    have h2 : i < ys.length := by omega
    exact ⟨xs, ys, _, _, q.1, q.2, List.getElem?_eq_getElem h1, List.getElem?_eq_getElem h2⟩
  · exact ⟨xs, ys, q.1, q.2, by omega⟩
  · obtain ⟨T, x', z, h1, h2, h3, h4, h5⟩ := y
    exact ⟨T, x', z, h1, h2, h3, h4 xs q.1, h5 ys q.2⟩
/-- a standing of the settings, told of any data -/
def standD (qs : List (Str × Int)) (d : PyData) : Bool := match d with
  | .tuple ds => decide (ds.length = qs.length) && (ds.zip qs).all fun p => isWhole p.1 0 p.2.2
  | _ => false
section
variable {P : Program} {w : World} {K : PySem.W.Frag} {mg : Str → Option Value} {base : Heap} {fI fN fS fA fG fSt fNs C fE : Addr}
abbrev NSt : List Str := ["settings", "thing", "value", "name", "most"]
theorem scSd : FnScope NSt ["settings", "thing"] (defScope sPStand) := ⟨rfl, rfl, rfl, by decide +kernel, rfl, by decide +kernel, by decide +kernel⟩
def spPStand (K : PySem.W.Frag) : Sp := fun vs H Q _ => ∃ (m l a : Addr) (xs : List V) (qs : List (Str × Int)) (v : V) (d : PyData), vs = [.ref a, v] ∧ SqT K H a xs ∧ PrTs K H xs qs ∧ qs.length ≤ 900 ∧ Dq K H m l v d ∧ ∀ H', Same H H' → Q (.bl (standD qs d)) H'
theorem ok_pstand {f : Addr} {fd fdI : FuncData} (F : Fun K "is_standing" "is_standing" sPStand f fd) (T : TxtP mg fI fN fS fA fG) (hz : mg "zip" = none) (FI : Fun K "is_int" "is_int" sPInt fI fdI) (bI : Binds K fdI ["thing"] []) : FnOk P w K mg base CX0 2 f fd ["settings", "thing"] (spPStand K) := by
  have GI : FnOk P w K mg base CX0 1 fI fdI ["thing"] (spPInt K) := ok_pint FI T
  refine F.ok scSd (fun vs H Q E h => ?_) (fun cdv A outer s H vs Q E hr h => ?_)
  · obtain ⟨m, l, a, xs, qs, v, d, rfl, _⟩ := h
    rfl
  obtain ⟨m, l, a, xs, qs, v, d, rfl, hs, hp, hl, hd, q⟩ := h
  have lx := hp.len
  refine ⟨_, pss_cons (ps_if (PW.pt (pw_or (pt_not (pt_val (pe_callB call_isi (by rfl) T.isi PyProof.Rows.boot_isinstance (pa_cons (pv 1) (pa_cons (pe_bltn (v := .ty "tuple") (u := .type "tuple") (by rfl) T.tuple (by decide +kernel) rfl) pa_nil)))))
      (pw_or1 (pt_cmpR op_ne (pe_callB call_len (by rfl) T.len PySem.boot_len (pa_cons (pv 1) pa_nil)) (pe_callB call_len (by rfl) T.len PySem.boot_len (pa_cons (pv 0) pa_nil)) (nomark _))))) (pss_one (ps_ret pe_bl)) pss_nil)
    (pss_cons (ps_for PassesOwn.never rfl (pi_zipA (by rfl) hz (pa_cons (pv 1) (pa_cons (pv 0) pa_nil)))
        (pg_tup rfl (pgs_cons (pg_name (i := 2) scSd.nd rfl (Or.inl rfl)) (pgs_cons (pg_tup rfl (pgs_cons (pg_name (i := 3) scSd.nd rfl (Or.inl rfl)) (pgs_cons (pg_name (i := 4) scSd.nd rfl (Or.inl rfl)) pgs_nil))) pgs_nil)))
        (pss_one (ps_if (PW.pt (pw_or (pt_not (pt_val (pe_call GI hr (by rfl) T.gI FI.kp bI .nil pass0 (pa_cons (pv 2) pa_nil)))) (pw_or1 (pt_not (pt_chain op_le op_le pe_int (pv 2) (pv 4)))))) (pss_one (ps_ret pe_bl)) pss_nil)))
      (pss_one (ps_ret pe_bl))), ?_⟩
  refine ⟨_, rfl, v, .ty "tuple", _, _, _, rfl, .ty _, hd.ty, isi_tup K d, _, rfl, ?_⟩
  cases d with
  | tuple es =>
    cases hd with
    | tup hq hy =>
      rename_i p ys
      have ly := hy.len
      refine ifF rfl ⟨_, rfl, .ref p, ys.length, rfl, .inr ⟨ys, hq, rfl⟩, _, rfl, .ref a, xs.length, rfl, .inr ⟨xs, hs, rfl⟩, rfl, _, rfl, ?_⟩
      have ee : decide (V.int ((ys.length : Nat) : Int) = V.int ((xs.length : Nat) : Int)) = decide (ys.length = xs.length) := by
        rw [Bool.eq_iff_iff, decide_eq_true_eq, decide_eq_true_eq, V.int.injEq]; omega
      rw [ee]
      by_cases hlen : ys.length = xs.length
      · refine ifF (by rw [decide_eq_true hlen]; rfl) ?_
        have es' : standD qs (.tuple es) = (es.zip qs).all fun p => isWhole p.1 0 p.2.2 := by
          show (decide (es.length = qs.length) && _) = _
          rw [decide_eq_true (by omega)]; rfl
        have lz : (es.zip qs).length = ys.length := by rw [List.length_zip]; omega
        refine ⟨_, rfl, _, rfl, p, a, ys, xs, rfl, .inr ⟨hq, hs, ?_⟩⟩
        refine for_zipT hlen (fun i σ H3 => ∃ v2 v3 v4 : Option V, σ = [some (.ref a), some (.ref p), v2, v3, v4] ∧ Same H H3 ∧ ((es.zip qs).all fun p => isWhole p.1 0 p.2.2) = (((es.zip qs).drop i).all fun p => isWhole p.1 0 p.2.2))
          ⟨none, none, none, rfl, Same.refl H, rfl⟩ (fun i σ H3 ⟨_, _, _, _, s3, _⟩ => ⟨Same.seqT s3 hq, Same.seqT s3 hs⟩) ?_ ?_
        · rintro i x1 y1 TT σ H3 e1 e2 ⟨v2, v3, v4, rfl, s3, g3⟩ hT
          obtain ⟨e, he, dqe⟩ := hy.get e1
          obtain ⟨qq, hqq, b, rfl, hb⟩ := hp.get e2
          have sT : Same H3 (upd H3 TT (.tup [x1, .ref b])) := Same.upd hT
          have s4 := s3.trans sT
          have ez : (es.zip qs)[i]? = some (e, qq) := by
            rw [List.getElem?_zip_eq_some]; exact ⟨he, hqq⟩
          have dr : (es.zip qs).drop i = (e, qq) :: (es.zip qs).drop (i + 1) := by
            obtain ⟨hi, hj⟩ := List.getElem?_eq_some_iff.mp ez
            rw [List.drop_eq_getElem_cons hi, hj]
          rw [dr, List.all_cons] at g3
          have bad : isWhole e 0 qq.2 = false → Q (.bl false) (upd H3 TT (.tup [x1, .ref b])) := fun h => by
            have : standD qs (.tuple es) = false := by rw [es', g3]; show (isWhole e 0 qq.2 && _) = false; rw [h]; rfl
            rw [← this]
            exact q _ s4
          have good : isWhole e 0 qq.2 = true → ((es.zip qs).all fun p => isWhole p.1 0 p.2.2) = (((es.zip qs).drop (i + 1)).all fun p => isWhole p.1 0 p.2.2) := fun h => by
            rw [g3]; show (isWhole e 0 qq.2 && _) = _; rw [h]; rfl
          refine ⟨TT, _, rfl, .inl (.inl upd_same), rfl, _, _, rfl, _, _, rfl, b, _, rfl, Same.seqT s4 hb, rfl, _, _, rfl, _, _, rfl, rfl, rfl, ?_⟩
          refine ⟨_, rfl, m, l, x1, e, rfl, Dq.same s4 e x1 dqe, _, rfl, ?_⟩
          cases e with
          | int j =>
            cases dqe
            refine ifF rfl ⟨_, rfl, 0, j, rfl, rfl, _, rfl, ite_b (fun h2 => ⟨_, rfl, j, qq.2, rfl, rfl, _, rfl, ite_b (fun h3 => bad ?_) (fun h3 => ⟨_, _, _, rfl, s4, good ?_⟩)⟩) (fun h2 => ⟨_, rfl, ifT rfl (bad ?_)⟩)⟩
            · show (decide (0 ≤ j) && decide (j ≤ qq.2)) = false
              have : decide (j ≤ qq.2) = false := by simpa using h3
              rw [this, Bool.and_false]
            · show (decide (0 ≤ j) && decide (j ≤ qq.2)) = true
              have : decide (j ≤ qq.2) = true := by simpa using h3
              rw [h2, this]; rfl
            · show (decide (0 ≤ j) && decide (j ≤ qq.2)) = false
              rw [h2]; rfl
          | _ => exact ifT rfl (bad rfl)
        · rintro σ H3 ⟨v2, v3, v4, rfl, s3, g3⟩
          rw [List.drop_of_length_le (by omega)] at g3
          have : standD qs (.tuple es) = true := by rw [es', g3]; rfl
          rw [← this]
          exact q _ s3
      · have es' : standD qs (.tuple es) = false := by
          show (decide (es.length = qs.length) && _) = false
          rw [decide_eq_false (by omega)]; rfl
        rw [es'] at q
        exact ifT (by rw [decide_eq_false hlen]; rfl) (q H (Same.refl H))
  | _ => exact ifT rfl (ifT rfl (q H (Same.refl H)))
end
end Ms
namespace Ms
open PySem PySem.Spec PyProof.Rows L2
/-! ### the order of data: <=, < -/
def rLeD (K : PySem.W.Frag) : R2 := fun x y H Q => ∃ d e, Dp K H x d ∧ Dp K H y e ∧ PySem.W.alike d e = true ∧ d ≠ .none ∧ d.depth ≤ 60 ∧ Q (.bl (!PySem.W.dataLt e d)) H
def rLtDa (K : PySem.W.Frag) : R2 := fun x y H Q => ∃ d e, Dp K H x d ∧ Dp K H y e ∧ PySem.W.alike d e = true ∧ d ≠ .none ∧ d.depth ≤ 60 ∧ Q (.bl (PySem.W.dataLt d e)) H
section
variable {X : Cx}
theorem op_leD (hu : X.A.units + 64 < cLine) : OpR X (compareOp .LtE) (rLeD X.K) := by
  intro pins s σ H x y v u Q I rx ry h
  obtain ⟨d, e, hd, he, al, nn, dp, q⟩ := h
  obtain ⟨as, r1⟩ := Dp.reads I d x v hd rx
  obtain ⟨bs, r2⟩ := Dp.reads I e y u he ry
  exact PySem.W.le_data r1 r2 al nn (by omega) ⟨.bl _, H, I, rfl, q⟩
theorem op_ltDa (hu : X.A.units + 64 < cLine) : OpR X (compareOp .Lt) (rLtDa X.K) := by
  intro pins s σ H x y v u Q I rx ry h
  obtain ⟨d, e, hd, he, al, nn, dp, q⟩ := h
  obtain ⟨as, r1⟩ := Dp.reads I d x v hd rx
  obtain ⟨bs, r2⟩ := Dp.reads I e y u he ry
  exact PySem.W.lt_data r1 r2 al nn (by omega) ⟨.bl _, H, I, rfl, q⟩
end
end Ms
namespace Ms
open PySem PySem.Spec PyProof.Rows L2 LamX
/-! ### data, where the heap is changed elsewhere -/
mutual
theorem Dq.gen {K : PySem.W.Frag} {m l m' l' : Addr} {H H' : Hp} (k1 : ∀ a xs, H a = some (.lst xs) → a ≠ m → a ≠ l → H' a = some (.lst xs) ∧ a ≠ m' ∧ a ≠ l') (k2 : ∀ a xs, SqT K H a xs → SqT K H' a xs)
    (k3 : ∀ a, H a = some (.dK []) → a ≠ m → a ≠ l → H' a = some (.dK []) ∧ a ≠ m' ∧ a ≠ l') : ∀ (d : PyData) (v : V), Dq K H m l v d → Dq K H' m' l' v d
  | .none, _, h => by cases h; exact .non
  | .bool b, _, h => by cases h; exact .bl b
  | .int i, _, h => by cases h; exact .int i
  | .str x, _, h => by cases h; exact .str x
  | .list ds, _, h => by
    cases h with
    | lst e n1 n2 t =>
      obtain ⟨e', n1', n2'⟩ := k1 _ _ e n1 n2
      exact .lst e' n1' n2' (DqAll.gen k1 k2 k3 ds _ t)
  | .tuple ds, _, h => by
    cases h with
    | tup e t => exact .tup (k2 _ _ e) (DqAll.gen k1 k2 k3 ds _ t)
  | .dict _, _, h => by
    cases h with
    | dct e n1 n2 =>
      obtain ⟨e', n1', n2'⟩ := k3 _ e n1 n2
      exact .dct e' n1' n2'
theorem DqAll.gen {K : PySem.W.Frag} {m l m' l' : Addr} {H H' : Hp} (k1 : ∀ a xs, H a = some (.lst xs) → a ≠ m → a ≠ l → H' a = some (.lst xs) ∧ a ≠ m' ∧ a ≠ l') (k2 : ∀ a xs, SqT K H a xs → SqT K H' a xs)
    (k3 : ∀ a, H a = some (.dK []) → a ≠ m → a ≠ l → H' a = some (.dK []) ∧ a ≠ m' ∧ a ≠ l') : ∀ (ds : List PyData) (vs : List V), DqAll K H m l vs ds → DqAll K H' m' l' vs ds
  | [], _, h => by cases h; exact .nil
  | d :: ds, _, h => by
    cases h with
    | cons h1 h2 => exact .cons (Dq.gen k1 k2 k3 d _ h1) (DqAll.gen k1 k2 k3 ds _ h2)
end
section
variable {K : PySem.W.Frag} {H H' : Hp} {m l : Addr}
theorem ExtN.seqT (e : ExtN H H') {a : Addr} {xs : List V} (h : SqT K H a xs) : SqT K H' a xs := by
  rcases h with (h | ⟨o, h⟩) | h
  · exact .inl (.inl (e _ _ h fun _ z => nomatch z))
  · exact .inl (.inr ⟨o, e _ _ h fun _ z => nomatch z⟩)
  · exact .inr h
theorem Dq.ext (e : ExtN H H') {v : V} {d : PyData} (h : Dq K H m l v d) : Dq K H' m l v d :=
  Dq.gen (fun a xs q n1 n2 => ⟨e _ _ q (fun _ z => nomatch z), n1, n2⟩) (fun a xs q => ExtN.seqT e q) (fun a q n1 n2 => ⟨e _ _ q (fun _ z => nomatch z), n1, n2⟩) d v h
theorem Mch.ext {n : Nat} (s : ExtN H H') (M : Mch H m l n) : Mch H' m l n := by
  obtain ⟨c, cs, ls, z, h1, h2, h3, h⟩ := M.ex
  exact ⟨c, cs, ls, z, s _ _ h1 (fun _ z => nomatch z), s _ _ h2 (fun _ z => nomatch z), s _ _ h3 (fun _ z => nomatch z), h⟩
theorem Same.toN (s : Same H H') : ExtN H H' := ExtN.of s
theorem Tabs.same {T : List (Addr × Str)} (t : Tabs T H) (s : Same H H') : Tabs T H' := t.ext s
end
/-! ### a list that is locked while its next item is made -/
section
variable {K : PySem.W.Frag} {H H' : Hp} {m l L : Addr} {n : Nat} {od : Obj} {u o : HO}
theorem upd_frz (h : H L = some (.frz od u)) {b : Addr} {w : HO} (k : ∀ od u, w ≠ .frz od u) (e : H b = some w) : upd H L o b = some w := by
  have nb : b ≠ L := fun z => by
    rw [z, h] at e
    exact k _ _ (Option.some.inj e).symm
  rw [upd_ne nb]; exact e
theorem Mch.unlock (h : H L = some (.frz od u)) (M : Mch H m l n) : Mch (upd H L o) m l n := by
  obtain ⟨c, cs, ls, z, h1, h2, h3, r⟩ := M.ex
  exact ⟨c, cs, ls, z, upd_frz h (fun _ _ z => nomatch z) h1, upd_frz h (fun _ _ z => nomatch z) h2, upd_frz h (fun _ _ z => nomatch z) h3, r⟩
theorem Tabs.unlock {T : List (Addr × Str)} (h : H L = some (.frz od u)) (t : Tabs T H) : Tabs T (upd H L o) := fun p hp => by
  obtain ⟨ps, h1, h2, h3⟩ := t p hp
  refine ⟨ps, upd_frz h (fun _ _ z => nomatch z) h1, h2, fun pos cv hc => ?_⟩
  obtain ⟨c, e1, e2⟩ := h3 pos cv hc
  refine ⟨c, e1, upd_frz h (fun _ _ z => ?_) e2⟩
  unfold CodeO at z
  cases z
theorem Dq.unlock (h : H L = some (.frz od (.lst u'))) {v : V} {d : PyData} (hd : Dq K H m l v d) : Dq K (upd H L o) m l v d := by
  refine Dq.gen (fun a xs q n1 n2 => ⟨upd_frz h (fun _ _ z => nomatch z) q, n1, n2⟩) (fun a xs q => ?_) (fun a q n1 n2 => ⟨upd_frz h (fun _ _ z => nomatch z) q, n1, n2⟩) d v hd
  rcases q with (q | ⟨o', q⟩) | q
  · exact .inl (.inl (upd_frz h (fun _ _ z => nomatch z) q))
  · have q' : H a = some (.frz o' (.tup xs)) := q
    have nb : a ≠ L := fun z => by
      rw [z, h] at q'
      cases q'
    have q2 : upd H L o a = some (.frz o' (.tup xs)) := by rw [upd_ne nb]; exact q'
    exact .inl (.inr ⟨o', q2⟩)
  · exact .inr q
theorem Tabs.fr {T : List (Addr × Str)} {l' : Addr} (M : Mch H m l n) (f : Fr m l l' H H') (t : Tabs T H) : Tabs T H' := fun p hp => by
  obtain ⟨ps, h1, h2, h3⟩ := t p hp
  obtain ⟨c0, cs, ls, z, e1, e2, e3, _⟩ := M.ex
  refine ⟨ps, f.keep _ _ h1 (ne_of h1 e1 (by intro z; cases z)) (ne_of h1 e3 (by intro z; cases z)), h2, fun pos cv hc => ?_⟩
  obtain ⟨c, q1, q2⟩ := h3 pos cv hc
  exact ⟨c, q1, f.keep _ _ q2 (ne_of q2 e1 (by intro z; unfold CodeO at z; cases z)) (ne_of q2 e3 (by intro z; unfold CodeO at z; cases z))⟩
end
end Ms
namespace Ms
open PySem PySem.Spec PyProof.Rows L2
/-! ### data without dicts, compared with itself -/
mutual
def noDi : PyData → Bool
  | .dict _ => false
  | .list xs | .tuple xs => noDiAll xs
  | _ => true
def noDiAll : List PyData → Bool
  | [] => true
  | x :: xs => noDi x && noDiAll xs
end
theorem noDi_all {xs : List PyData} (h : ∀ x ∈ xs, noDi x = true) : noDiAll xs = true := by
  induction xs with
  | nil => rfl
  | cons x xs ih => simp only [noDiAll, h x (List.mem_cons_self ..), ih fun y hy => h y (List.mem_cons_of_mem _ hy), Bool.and_self]
mutual
theorem lay_of {B : Nat} : ∀ d : PyData, okD B d = true → noDi d = true → d.canLay0 = true
  | .none, _, _ => rfl
  | .bool _, _, _ => rfl
  | .int _, _, _ => rfl
  | .str x, e, _ => by
    simp only [okD, List.all_eq_true, decide_eq_true_eq] at e
    show x.cps.all (· < 0x110000) = true
    rw [← Array.all_toList, List.all_eq_true]
    exact fun c hc => decide_eq_true (e c hc)
  | .list xs, e, n => by
    simp only [okD] at e
    simp only [noDi] at n
    exact layAll_of xs e n
  | .tuple xs, e, n => by
    simp only [okD] at e
    simp only [noDi] at n
    exact layAll_of xs e n
  | .dict _, _, n => by simp [noDi] at n
theorem layAll_of {B : Nat} : ∀ xs : List PyData, okAll B xs = true → noDiAll xs = true → PyData.canLayAll0 xs = true
  | [], _, _ => rfl
  | x :: xs, e, n => by
    simp only [okAll, Bool.and_eq_true] at e
    simp only [noDiAll, Bool.and_eq_true] at n
    show (x.canLay0 && PyData.canLayAll0 xs) = true
    rw [lay_of x e.1 n.1, layAll_of xs e.2 n.2]; rfl
end
theorem shaped_of {B a b : Nat} {d : PyData} (g : Gd B a b d) (n : noDi d = true) (hb : b ≤ 60) : SeqAt.shaped d = true := by
  unfold SeqAt.shaped
  rw [lay_of d g.ok n, decide_eq_true (by have := g.dp; omega)]; rfl
mutual
theorem Dq.dp {K : PySem.W.Frag} {H : Hp} {m l : Addr} : ∀ (d : PyData) (v : V), Dq K H m l v d → noDi d = true → Dp K H v d
  | .none, _, h, _ => by cases h; exact .non
  | .bool b, _, h, _ => by cases h; exact .bl b
  | .int i, _, h, _ => by cases h; exact .int i
  | .str x, _, h, _ => by cases h; exact .str x
  | .list ds, _, h, n => by
    simp only [noDi] at n
    cases h with
    | lst e _ _ t => exact .lst (SqL.of e) (DqAll.dp ds _ t n)
  | .tuple ds, _, h, n => by
    simp only [noDi] at n
    cases h with
    | tup e t => exact .tup e (DqAll.dp ds _ t n)
  | .dict _, _, h, n => by simp [noDi] at n
theorem DqAll.dp {K : PySem.W.Frag} {H : Hp} {m l : Addr} : ∀ (ds : List PyData) (vs : List V), DqAll K H m l vs ds → noDiAll ds = true → DpAll K H vs ds
  | [], _, h, _ => by cases h; exact .nil
  | d :: ds, _, h, n => by
    simp only [noDiAll, Bool.and_eq_true] at n
    cases h with
    | cons h1 h2 => exact .cons (Dq.dp d _ h1 n.1) (DqAll.dp ds _ h2 n.2)
end
theorem ne_self {K : PySem.W.Frag} {H : Hp} {m l : Addr} {v u : V} {d : PyData} {B a b : Nat} {Q : VK} (h1 : Dq K H m l v d) (h2 : Dq K H m l u d) (g : Gd B a b d) (n : noDi d = true) (hb : b ≤ 60) (q : Q (.bl false) H) : rNeD K v u H Q :=
  ⟨d, d, h1.dp d v n, h2.dp d u n, shaped_of g n hb, shaped_of g n hb, by rw [SeqAt.eqv_refl d (lay_of d g.ok n)]; exact q⟩
end Ms
namespace Ms
open PySem PySem.Spec PyProof.Rows L2
/-! ### is_switch, first_wrong of the package -/
theorem stand_ints {qs : List (Str × Int)} {d : PyData} (h : standD qs d = true) : ∃ ns : List Int, d = .tuple (ns.map PyData.int) ∧ ns.length = qs.length := by
  cases d with
  | tuple ds =>
    have h2 : (decide (ds.length = qs.length) && (ds.zip qs).all fun p => isWhole p.1 0 p.2.2) = true := h
    rw [Bool.and_eq_true, decide_eq_true_eq] at h2
    obtain ⟨hl, ha⟩ := h2
    have key : ∀ (ds : List PyData) (qs : List (Str × Int)), ds.length = qs.length → ((ds.zip qs).all fun p => isWhole p.1 0 p.2.2) = true → ∃ ns : List Int, ds = ns.map PyData.int := by
      intro ds
      induction ds with
      | nil => intro qs _ _; exact ⟨[], rfl⟩
      | cons d ds ih =>
        intro qs hl ha
        cases qs with
        | nil => cases hl
        | cons q qs =>
          rw [List.zip_cons_cons, List.all_cons, Bool.and_eq_true] at ha
          obtain ⟨ns, e⟩ := ih qs (by simpa using hl) ha.2
          have h1 : isWhole d 0 q.2 = true := ha.1
          cases d with
          | int j => exact ⟨j :: ns, by rw [e]; rfl⟩
          | _ => cases h1
    obtain ⟨ns, e⟩ := key ds qs hl ha
    exact ⟨ns, by rw [e], by rw [← hl, e, List.length_map]⟩
  | _ => cases h
theorem noDi_ints (ns : List Int) : noDi (.tuple (ns.map PyData.int)) = true := noDi_all fun x hx => by
  obtain ⟨j, _, rfl⟩ := List.mem_map.mp hx
  rfl
theorem shaped_tints (ns : List Int) : SeqAt.shaped (.tuple (ns.map PyData.int)) = true := by
  show (PyData.canLayAll0 (ns.map PyData.int) && decide (PyData.depthAll (ns.map PyData.int) + 1 ≤ 64)) = true
  rw [lay_ints, depth_ints]; rfl
/-- a switch, told of any data -/
def switchD (qs : List (Str × Int)) (d : PyData) : Bool := match d with
  | .tuple [a, b] => standD qs a && (standD qs b && !PyData.eqv a b)
  | _ => false
/-- the place of the first thing that is not as P says, or not above the one before it -/
def firstW (P : PyData → Bool) : Option PyData → Nat → List PyData → Option Nat
  | _, _, [] => none
  | prev, at_, d :: ds => if (P d && (match prev with | none => true | some e => PySem.W.dataLt e d)) = true then firstW P (some d) (at_ + 1) ds else some at_
def firstWV (P : PyData → Bool) (ds : List PyData) : V := match firstW P none 0 ds with
  | none => .non
  | some p => .int (p : Nat)
section
variable {P : Program} {w : World} {K : PySem.W.Frag} {mg : Str → Option Value} {base : Heap} {fI fN fS fA fG fSt : Addr}
abbrev NSw : List Str := ["settings", "thing", "first", "second"]
theorem scSw : FnScope NSw ["settings", "thing"] (defScope sPSwitch) := ⟨rfl, rfl, rfl, by decide +kernel, rfl, by decide +kernel, by decide +kernel⟩
def spPSwitch (K : PySem.W.Frag) : Sp := fun vs H Q _ => ∃ (m l a : Addr) (xs : List V) (qs : List (Str × Int)) (v : V) (d : PyData), vs = [.ref a, v] ∧ SqT K H a xs ∧ PrTs K H xs qs ∧ qs.length ≤ 900 ∧ Dq K H m l v d ∧ ∀ H', Same H H' → Q (.bl (switchD qs d)) H'
theorem ok_pswitch {f : Addr} {fd fdI fdSt : FuncData} (F : Fun K "is_switch" "is_switch" sPSwitch f fd) (T : TxtP mg fI fN fS fA fG) (hz : mg "zip" = none) (gSt : mg "is_standing" = some (.ref fSt)) (FI : Fun K "is_int" "is_int" sPInt fI fdI) (bI : Binds K fdI ["thing"] [])
    (FSt : Fun K "is_standing" "is_standing" sPStand fSt fdSt) (bSt : Binds K fdSt ["settings", "thing"] []) : FnOk P w K mg base CX0 3 f fd ["settings", "thing"] (spPSwitch K) := by
  have GSt : FnOk P w K mg base CX0 2 fSt fdSt ["settings", "thing"] (spPStand K) := ok_pstand FSt T hz FI bI
  refine F.ok scSw (fun vs H Q E h => ?_) (fun cdv A outer s H vs Q E hr h => ?_)
  · obtain ⟨m, l, a, xs, qs, v, d, rfl, _⟩ := h
    rfl
  obtain ⟨m, l, a, xs, qs, v, d, rfl, hs, hp, hl, hd, q⟩ := h
  refine ⟨_, pss_cons (ps_if (PW.pt (pw_or (pt_not (pt_val (pe_callB call_isi (by rfl) T.isi PyProof.Rows.boot_isinstance (pa_cons (pv 1) (pa_cons (pe_bltn (v := .ty "tuple") (u := .type "tuple") (by rfl) T.tuple (by decide +kernel) rfl) pa_nil)))))
      (pw_or1 (pt_cmpR op_ne (pe_callB call_len (by rfl) T.len PySem.boot_len (pa_cons (pv 1) pa_nil)) pe_int (nomark _))))) (pss_one (ps_ret pe_bl)) pss_nil)
    (pss_cons (ps_asg (pv 1) (pg_tup rfl (pgs_cons (pg_name (i := 2) scSw.nd rfl (Or.inl rfl)) (pgs_cons (pg_name (i := 3) scSw.nd rfl (Or.inl rfl)) pgs_nil))))
    (pss_one (ps_ret (pe_and (pe_call GSt hr rfl gSt FSt.kp bSt .nil pass0 (pa_cons (pv 0) (pa_cons (pv 2) pa_nil))) (pe_and (pe_call GSt hr rfl gSt FSt.kp bSt .nil pass0 (pa_cons (pv 0) (pa_cons (pv 3) pa_nil)))
      (pe_one (pe_cmpR (show OpR _ (compareOp .NotEq) (rNeD K) from op_neD (by exact hr.units)) (pv 2) (pv 3) (nomark _)))))))), ?_⟩
  refine ⟨_, rfl, v, .ty "tuple", _, _, _, rfl, .ty _, hd.ty, isi_tup K d, _, rfl, ?_⟩
  cases d with
  | tuple es =>
    cases hd with
    | tup hq hy =>
      rename_i p ys
      have ly := hy.len
      refine ifF rfl ⟨_, rfl, .ref p, ys.length, rfl, .inr ⟨ys, hq, rfl⟩, rfl, _, rfl, ite_b (fun e => ?_) (fun e => ?_)⟩
      · have : switchD qs (.tuple es) = false := by
          match es, ly with
          | [], _ => rfl
          | [_], _ => rfl
          | [_, _], ly => rw [show ys.length = 2 from ly] at e; exact absurd e (by decide)
          | _ :: _ :: _ :: _, _ => rfl
        rw [this] at q
        exact q H (Same.refl H)
      have l2 : ys.length = 2 := by
        have q1 : decide (V.int ((ys.length : Nat) : Int) = V.int 2) = true := by simpa using e
        have q2 := of_decide_eq_true q1
        have q3 : ((ys.length : Nat) : Int) = 2 := by injection q2
        omega
      obtain ⟨y0, y1, rfl⟩ : ∃ y0 y1, ys = [y0, y1] := by
        match ys, l2 with
        | [y0, y1], _ => exact ⟨y0, y1, rfl⟩
      obtain ⟨d0, d1, rfl⟩ : ∃ d0 d1, es = [d0, d1] := by
        match es, ly with
        | [d0, d1], _ => exact ⟨d0, d1, rfl⟩
      obtain ⟨q0, q1⟩ : Dq K H m l y0 d0 ∧ Dq K H m l y1 d1 := by
        cases hy with
        | cons h0 h1 => cases h1 with | cons h1 _ => exact ⟨h0, h1⟩
      refine ⟨_, rfl, p, _, rfl, hq, rfl, _, _, rfl, _, _, rfl, rfl, ?_⟩
      refine ⟨_, rfl, _, rfl, m, l, a, xs, qs, y0, d0, rfl, hs, hp, hl, q0, fun H1 s1 => ⟨_, rfl, ite_b (fun e0 => ?_) (fun e0 => ?_)⟩⟩
      · refine ⟨_, rfl, _, rfl, m, l, a, xs, qs, y1, d1, rfl, Same.seqT s1 hs, PrTs.same s1 hp, hl, Dq.same s1 _ _ q1, fun H2 s2 => ⟨_, rfl, ite_b (fun e1 => ?_) (fun e1 => ?_)⟩⟩
        · have s12 := s1.trans s2
          obtain ⟨n0, rfl, _⟩ := stand_ints e0
          obtain ⟨n1, rfl, _⟩ := stand_ints e1
          refine ⟨_, rfl, _, rfl, _, _, Dq.dp _ _ (Dq.same s12 _ _ q0) (noDi_ints _), Dq.dp _ _ (Dq.same s12 _ _ q1) (noDi_ints _), shaped_tints _, shaped_tints _, ?_⟩
          have : switchD qs (.tuple [.tuple (n0.map .int), .tuple (n1.map .int)]) = !PyData.eqv (.tuple (n0.map .int)) (.tuple (n1.map .int)) := by
            show (standD qs _ && (standD qs _ && _)) = _
            rw [e0, e1]; rfl
          rw [this] at q
          exact q _ s12
        · have : switchD qs (.tuple [d0, d1]) = false := by
            show (standD qs d0 && (standD qs d1 && _)) = false
            rw [e0, e1]; rfl
          rw [this] at q
          exact q _ (s1.trans s2)
      · have : switchD qs (.tuple [d0, d1]) = false := by
          show (standD qs d0 && _) = false
          rw [e0]; rfl
        rw [this] at q
        exact q _ s1
  | _ => exact ifT rfl (ifT rfl (q H (Same.refl H)))
abbrev NFw : List Str := ["things", "good", "at", "thing"]
theorem scFw : FnScope NFw ["things", "good"] (defScope sFirstW) := ⟨rfl, rfl, rfl, by decide +kernel, rfl, by decide +kernel, by decide +kernel⟩
def spFirstW (K : PySem.W.Frag) : Sp := fun vs H Q _ => ∃ (m l a g : Addr) (xs : List V) (ds : List PyData) (Pd : PyData → Bool), vs = [.ref a, .ref g] ∧ SqT K H a xs ∧ DqAll K H m l xs ds ∧ H g = some (.lst ((ds.map Pd).map V.bl)) ∧
  (∀ d e, d ∈ ds → e ∈ ds → Pd d = true → Pd e = true → PySem.W.alike d e = true ∧ noDi d = true ∧ d ≠ .none ∧ d.depth ≤ 60) ∧ ∀ H', Same H H' → Q (firstWV Pd ds) H'
theorem ok_firstw {f : Addr} {fd : FuncData} (F : Fun K "first_wrong" "first_wrong" sFirstW f fd) (hen : mg "enumerate" = none) : FnOk P w K mg base CX0 1 f fd ["things", "good"] (spFirstW K) := by
  refine F.ok scFw (fun vs H Q E h => ?_) (fun cdv A outer s H vs Q E hr h => ?_)
  · obtain ⟨m, l, a, g, xs, ds, Pd, rfl, _⟩ := h
    rfl
  obtain ⟨m, l, a, g, xs, ds, Pd, rfl, hs, hd, hg, al, q⟩ := h
  have lx := hd.len
  refine ⟨_, pss_cons (ps_for PassesOwn.never rfl (pi_et (by rfl) hen (pa_cons (pv 0) pa_nil)) (pg_tup rfl (pgs_cons (pg_name (i := 2) scFw.nd rfl (Or.inl rfl)) (pgs_cons (pg_name (i := 3) scFw.nd rfl (Or.inl rfl)) pgs_nil)))
      (pss_one (ps_if (PW.pt (pw_or (pt_not (pt_val (pe_ix (show IxR _ (rIxL K) from ix_list) (pv 1) (pv 2) (fun _ _ => rfl))))
        (pw_or1 (PW.pt (pw_and (pt_cmpR op_gt (pv 2) pe_int (nomark _)) (pw_and1 (pt_cmpR (show OpR _ (compareOp .LtE) (rLeD K) from op_leD (by exact hr.units)) (pv 3) (pe_ix (show IxR _ (rIxT K) from ix_tup) (pv 0) (pe_op op_sub (pv 2) pe_int) (fun _ _ => rfl)) (nomark _)))))))) (pss_one (ps_ret (pv 2))) pss_nil)))
    (pss_one (ps_ret pe_non)), ?_⟩
  refine ⟨_, rfl, a, xs, rfl, hs, ?_⟩
  refine for_it walk_et (fun i σ H1 => ∃ (v2 v3 : Option V), σ = [some (.ref a), some (.ref g), v2, v3] ∧ Same H H1 ∧ (∀ j e, j + 1 = i → ds[j]? = some e → Pd e = true) ∧ firstW Pd none 0 ds = firstW Pd (match i with | 0 => none | j + 1 => ds[j]?) i (ds.drop i))
    ⟨none, none, rfl, Same.refl H, (fun j e z => nomatch z), rfl⟩ (fun i σ H1 _ ⟨v2, v3, _, s1, _⟩ => Same.seqT s1 hs) ?_ ?_
  · rintro i x σ H1 H2 hi ⟨v2, v3, rfl, s1, pb, dg⟩ ⟨TT, x1, x2, rfl, hT, rfl, e1', e2'⟩
    have ex1 : x1 = .int (i : Nat) := (Option.some.inj e1').symm
    subst ex1
    obtain ⟨e, he, dqe⟩ := hd.get e2'
    have sA : Same H (upd H1 TT (.tup [.int (i : Nat), x2])) := s1.trans (Same.upd hT)
    have hid : i < ds.length := by omega
    have edr : ds.drop i = e :: ds.drop (i + 1) := by rw [List.drop_eq_getElem_cons hid]; rw [(List.getElem?_eq_some_iff.mp he).2]
    have hem : e ∈ ds := List.mem_of_getElem? he
    have gT : (upd H1 TT (.tup [.int (i : Nat), x2])) TT = some (.tup [.int (i : Nat), x2]) := upd_same
    generalize upd H1 TT (.tup [.int (i : Nat), x2]) = H3 at sA gT ⊢
    have hb : atI ((ds.map Pd).map V.bl) ((i : Nat) : Int) = some (.bl (Pd e)) := atI_nat (by rw [List.getElem?_map, List.getElem?_map, he]; rfl)
    refine ⟨TT, _, rfl, .inl (.inl gT), rfl, _, _, rfl, _, _, rfl, rfl, ?_⟩
    refine ⟨_, rfl, _, rfl, g, _, ((i : Nat) : Int), .bl (Pd e), rfl, rfl, SqL.of (sA _ _ hg), hb, _, rfl, ?_⟩
    rw [edr] at dg
    simp only [firstW] at dg
    have found : firstW Pd none 0 ds = some i → Q (.int (i : Nat)) H3 := fun z => by
      have w : firstWV Pd ds = .int (i : Nat) := by
        unfold firstWV
        rw [z]
      rw [← w]
      exact q _ sA
    cases hp : Pd e with
    | false =>
      rw [hp, Bool.false_and, if_neg Bool.false_ne_true] at dg
      exact ifT rfl ⟨_, rfl, found dg⟩
    | true =>
      rw [hp, Bool.true_and] at dg
      refine ifF rfl ?_
      cases i with
      | zero =>
        refine ⟨_, rfl, _, 0, rfl, rfl, _, rfl, ifF rfl (ifF rfl ⟨_, _, rfl, sA, (fun j e' z hj => ?_), ?_⟩)⟩
        · obtain rfl : j = 0 := by omega
          rw [he] at hj; cases hj; exact hp
        · have d2 : firstW Pd none 0 ds = firstW Pd (some e) 1 (ds.drop 1) := dg
          rw [d2]
          show _ = firstW Pd ds[0]? 1 (ds.drop 1)
          rw [he]
      | succ j =>
        have hj : j < xs.length := by omega
        obtain ⟨d', hd', dq'⟩ := hd.get (List.getElem?_eq_getElem hj)
        have hpd := pb j d' rfl hd'
        obtain ⟨al1, nd1, nn1, dp1⟩ := al e d' hem (List.mem_of_getElem? hd') hp hpd
        have nd2 := (al d' e (List.mem_of_getElem? hd') hem hpd hp).2.1
        have d2 : firstW Pd none 0 ds = if (match ds[j]? with | none => true | some e' => PySem.W.dataLt e' e) = true then firstW Pd (some e) (j + 1 + 1) (ds.drop (j + 1 + 1)) else some (j + 1) := dg
        rw [hd'] at d2
        refine ⟨_, rfl, _, 0, rfl, rfl, _, rfl, ifT (decide_eq_true (by show (0 : Int) < ((j + 1 : Nat) : Int); omega)) ?_⟩
        refine ⟨_, rfl, _, rfl, _, rfl, _, _, rfl, rfl, a, xs, (j : Int), xs[j], rfl, ?_, Same.seqT sA hs, atI_nat (List.getElem?_eq_getElem hj), e, d', Dq.dp _ _ (Dq.same sA _ _ dqe) nd1, Dq.dp _ _ (Dq.same sA _ _ dq') nd2, al1, nn1, dp1, _, rfl, ?_⟩
        · show V.int (((j + 1 : Nat) : Int) - 1) = V.int (j : Int)
          rw [V.int.injEq]; omega
        cases hlt : PySem.W.dataLt d' e with
        | true =>
          have d3 : firstW Pd none 0 ds = firstW Pd (some e) (j + 1 + 1) (ds.drop (j + 1 + 1)) := by
            rw [d2]; exact if_pos hlt
          refine ifF rfl ⟨_, _, rfl, sA, (fun j' e' z hj' => ?_), ?_⟩
          · obtain rfl : j' = j + 1 := by omega
            rw [he] at hj'; cases hj'; exact hp
          · rw [d3]
            show _ = firstW Pd ds[j + 1]? (j + 1 + 1) (ds.drop (j + 1 + 1))
            rw [he]
        | false =>
          have d3 : firstW Pd none 0 ds = some (j + 1) := by
            rw [d2]; exact if_neg (by show ¬ PySem.W.dataLt d' e = true; rw [hlt]; exact Bool.false_ne_true)
          exact ifT rfl ⟨_, rfl, found d3⟩
  · rintro σ H1 ⟨v2, v3, rfl, s1, pb, dg⟩
    rw [List.drop_of_length_le (by omega)] at dg
    have : firstWV Pd ds = .non := by
      unfold firstWV
      rw [dg]; rfl
    rw [← this]
    exact q _ s1
end
end Ms
namespace Ms
open PySem PySem.Spec PyProof.Rows L2
/-! ### need_starts, need_switches of the package -/
/-- the place of what is wrong first; none of right ones -/
def needW (P : PyData → Bool) (d : PyData) : Option V := match d with
  | .tuple ds => (firstW P none 0 ds).map fun p => .int (p : Nat)
  | _ => some .non
theorem alike_intsB : ∀ xs ys : List Int, PySem.W.alikeAll (xs.map .int) (ys.map .int) = true
  | [], _ => by cases ‹List Int› <;> rfl
  | _ :: _, [] => rfl
  | _ :: xs, _ :: ys => alike_intsB xs ys
theorem stand_alike {qs : List (Str × Int)} {d e : PyData} (h1 : standD qs d = true) (h2 : standD qs e = true) : PySem.W.alike d e = true ∧ noDi d = true ∧ d ≠ .none ∧ d.depth ≤ 1 := by
  obtain ⟨ns, rfl, _⟩ := stand_ints h1
  obtain ⟨ms, rfl, _⟩ := stand_ints h2
  refine ⟨alike_intsB ns ms, noDi_ints ns, (fun z => nomatch z), ?_⟩
  show PyData.depthAll (ns.map .int) + 1 ≤ 1
  rw [depth_ints]; exact Nat.le_refl _
theorem switch_two {qs : List (Str × Int)} {d : PyData} (h : switchD qs d = true) : ∃ a b, d = .tuple [a, b] ∧ standD qs a = true ∧ standD qs b = true ∧ PyData.eqv a b = false := by
  match d, h with
  | .tuple [a, b], h =>
    have h' : (standD qs a && (standD qs b && !PyData.eqv a b)) = true := h
    rw [Bool.and_eq_true, Bool.and_eq_true, Bool.not_eq_true'] at h'
    exact ⟨a, b, rfl, h'.1, h'.2.1, h'.2.2⟩
theorem switch_alike {qs : List (Str × Int)} {d e : PyData} (h1 : switchD qs d = true) (h2 : switchD qs e = true) : PySem.W.alike d e = true ∧ noDi d = true ∧ d ≠ .none ∧ d.depth ≤ 2 := by
  obtain ⟨a, b, rfl, ha, hb, _⟩ := switch_two h1
  obtain ⟨a', b', rfl, ha', hb', _⟩ := switch_two h2
  obtain ⟨x1, x2, _, x4⟩ := stand_alike ha ha'
  obtain ⟨y1, y2, _, y4⟩ := stand_alike hb hb'
  refine ⟨?_, ?_, (fun z => nomatch z), ?_⟩
  · show (PySem.W.alike a a' && (PySem.W.alike b b' && true)) = true
    rw [x1, y1]; rfl
  · show (noDi a && (noDi b && true)) = true
    rw [x2, y2]; rfl
  · show max a.depth (max b.depth 0) + 1 ≤ 2
    omega
section
variable {P : Program} {w : World} {K : PySem.W.Frag} {mg : Str → Option Value} {base : Heap} {fI fN fS fA fG fSt fSw fFw C fE : Addr}
def spNW (K : PySem.W.Frag) (C : Addr) (Pd : List (Str × Int) → PyData → Bool) : Sp := fun vs H Q E => ∃ (m l a : Addr) (xs : List V) (qs : List (Str × Int)) (v : V) (d : PyData), vs = [.ref a, v] ∧ SqT K H a xs ∧ PrTs K H xs qs ∧ qs.length ≤ 900 ∧ Dq K H m l v d ∧ (∀ ds, d = .tuple ds → ds.length ≤ 100000) ∧
  (needW (Pd qs) d = none → ∀ H', Same H H' → Q v H') ∧ ∀ u, needW (Pd qs) d = some u → ∀ dx H', H dx = none → Same H H' → H' dx = some (.xd [("place", u)]) → E (.ref C) (some dx) H'
theorem scInSt : FnScope ["self", "place"] ["self", "place"] (defScope sIniSt) := ⟨rfl, rfl, rfl, by decide +kernel, rfl, by decide +kernel, by decide +kernel⟩
theorem ok_iniSt {fd : FuncData} {qual : Str} (F : Fun K "__init__" qual sIniSt fE fd) (TE : ErrC K C fE) : FnOk P w K mg base CX0 1 fE fd ["self", "place"] (spIni C) := by
  refine F.ok scInSt (fun vs H Q E h => ?_) (fun cdv A outer s H vs Q E hr h => ?_)
  · obtain ⟨a, y, rfl, _⟩ := h
    rfl
  · obtain ⟨a, y, rfl, e, q⟩ := h
    exact ⟨_, pss_one (ps_ost (pv 0) (pv 1)), ⟨_, rfl, _, rfl, a, C, rfl, TE.ox, TE.no, .inl ⟨e, fun dx h1 h2 => q dx h1 h2⟩⟩⟩
abbrev NNSt : List Str := ["settings", "starts", "wrong", "start"]
theorem scNSt : FnScope NNSt ["settings", "starts"] (defScope sNStarts) := ⟨rfl, rfl, rfl, by decide +kernel, rfl, by decide +kernel, by decide +kernel⟩
theorem ok_needSt {f : Addr} {fd fdI fdSt fdSw fdFw fdE : FuncData} {qual : Str} (F : Fun K "need_starts" "need_starts" sNStarts f fd) (T : TxtP mg fI fN fS fA fG) (hz : mg "zip" = none) (gSt : mg "is_standing" = some (.ref fSt)) (gFw : mg "first_wrong" = some (.ref fFw)) (gC : mg "BadStarts" = some (.ref C)) (TE : ErrC K C fE)
    (FI : Fun K "is_int" "is_int" sPInt fI fdI) (bI : Binds K fdI ["thing"] []) (FSt : Fun K "is_standing" "is_standing" sPStand fSt fdSt) (bSt : Binds K fdSt ["settings", "thing"] []) (FFw : Fun K "first_wrong" "first_wrong" sFirstW fFw fdFw) (bFw : Binds K fdFw ["things", "good"] [])
    (FE : Fun K "__init__" qual sIniSt fE fdE) (bE : Binds K fdE ["self", "place"] []) : FnOk P w K mg base (L2.CX P w) 4 f fd ["settings", "starts"] (spNW K C standD) := by
  have GIs : FnOk P w K mg base CX0 2 fSt fdSt ["settings", "thing"] (spPStand K) := ok_pstand FSt T hz FI bI
  have GFw : FnOk P w K mg base CX0 1 fFw fdFw ["things", "good"] (spFirstW K) := ok_firstw FFw T.enumerate
  have GE : FnOk P w K mg base CX0 1 fE fdE ["self", "place"] (spIni C) := ok_iniSt FE TE
  refine F.okX scNSt (fun vs H Q E h => ?_) (fun cdv A outer s H vs Q E hr h => ?_)
  · obtain ⟨m, l, a, xs, qs, v, d, rfl, _⟩ := h
    rfl
  obtain ⟨m, l, a, xs, qs, v, d, rfl, hs, hp, hl, hd, gd, q, qe⟩ := h
  have hr1 : Room 1 _ := hr.mono (by decide)
  have hrI : Room 2 _ := hr.mono (by decide)
  have hrE : Room 2 _ := hr.mono (by decide)
  refine ⟨_, pss_cons (ps_if (pt_not (pt_val (pe_callB call_isi (by rfl) T.isi PyProof.Rows.boot_isinstance (pa_cons (pv 1) (pa_cons (pe_bltn (v := .ty "tuple") (u := .type "tuple") (by rfl) T.tuple (by decide +kernel) rfl) pa_nil)))))
      (pss_one (ps_raise rfl (takes_of rfl rfl rfl rfl) (pmk_oex TE.ox TE.ini TE.ty GE hrE bE .nil pass0 (by rfl) gC (pa_cons pe_non pa_nil)))) pss_nil)
    (pss_cons (ps_set (i := 2) scNSt.nd rfl (by first | exact Or.inl rfl | exact Or.inr rfl) (pe_call GFw hr1 (by rfl) gFw FFw.kp bFw .nil pass0 (pa_cons (pv 1) (pa_cons
      (pe_lc (own := [("start", 3)]) (g := gName 3) (by rfl) scNSt.nd (pi_tup (pv 1)) (blkOk_by (own := [("start", 3)]) (N := NNSt) (sc := defScope sNStarts) (by decide +kernel))
        (fun _ _ _ _ _ => pg_name (i := 3) scNSt.nd rfl (by first | exact Or.inl rfl | exact Or.inr rfl)) (fun _ _ _ _ _ => pts_nil) (fun _ _ _ _ _ => pe_call GIs hrI (by rfl) gSt FSt.kp bSt .nil pass0 (pa_cons (pv 0) (pa_cons (pv 3) pa_nil)))) pa_nil))))
    (pss_cons (ps_if (pt_cmpR op_notN (pv 2) pe_non (nomark _)) (pss_one (ps_raise rfl (takes_of rfl rfl rfl rfl) (pmk_oex TE.ox TE.ini TE.ty GE hrE bE .nil pass0 (by rfl) gC (pa_cons (pv 2) pa_nil)))) pss_nil)
    (pss_one (ps_ret (pv 1))))), ?_⟩
  refine ⟨_, rfl, v, .ty "tuple", _, _, _, rfl, .ty _, hd.ty, isi_tup K d, _, rfl, ?_⟩
  cases d with
  | tuple ds =>
    cases hd with
    | tup h0 hx =>
      rename_i p ys
      refine ifF rfl ?_
      have ly := hx.len
      have lw : ds.length ≤ 100000 := gd ds rfl
      refine ⟨_, rfl, _, rfl, p, rfl, ⟨_, h0⟩, fun D hD => ?_⟩
      have sD : Same H (upd H D (.lst [])) := Same.upd hD
      refine lc_it (walk_tup (xs := ys)) (fun i H1 => Same H H1 ∧ H1 D = some (.lst (((ds.take i).map (standD qs)).map V.bl))) ⟨sD, upd_same⟩ (fun i H1 _ ⟨sG, _⟩ => Same.seqT sG h0) ?_ ?_
      · rintro i x H1 H2 hi ⟨sG, gD⟩ ⟨rfl, hx0⟩
        obtain ⟨dd, hdd, dqe⟩ := hx.get hx0
        refine ⟨rfl, _, rfl, _, rfl, m, l, a, xs, qs, x, dd, rfl, Same.seqT sG hs, PrTs.same sG hp, hl, Dq.same sG _ _ dqe, fun H3 s3 => ⟨_, s3 _ _ gD, ?_, fun b o hb => ?_, ?_⟩⟩
        · rw [List.length_map, List.length_map, List.length_take]
          have h5 : (100001 : Nat) ≤ sizeLine := by decide
          omega
        · rw [upd_ne (ne_of_none hb hD)]; exact s3 _ _ (sG _ _ hb)
        · rw [upd_same, List.take_succ, hdd, List.map_append, List.map_append]; rfl
      · rintro H1 ⟨s1, gg0⟩
        rw [List.take_of_length_le (by omega)] at gg0
        have gg : H1 D = some (.lst ((ds.map (standD qs)).map V.bl)) := gg0
        refine ⟨m, l, p, D, ys, ds, standD qs, rfl, Same.seqT s1 h0, DqAll.same s1 _ _ hx, gg, (fun d e hd he h1 h2 => let ⟨x1, x2, x3, x4⟩ := stand_alike h1 h2; ⟨x1, x2, x3, Nat.le_trans x4 (by decide)⟩), fun H2 s2 => ?_⟩
        have s12 := s1.trans s2
        cases hf : firstW (standD qs) none 0 ds with
        | none =>
          have e1 : firstWV (standD qs) ds = .non := by unfold firstWV; rw [hf]
          rw [e1]
          exact ⟨_, rfl, rfl, _, rfl, ifF rfl ⟨_, rfl, q (by show (firstW (standD qs) none 0 ds).map _ = none; rw [hf]; rfl) _ s12⟩⟩
        | some i =>
          have e1 : firstWV (standD qs) ds = .int (i : Nat) := by unfold firstWV; rw [hf]
          rw [e1]
          exact ⟨_, rfl, rfl, _, rfl, ifT rfl ⟨_, rfl, mk_one fun dx H' h1 h2 h3 => qe (.int (i : Nat)) (by show (firstW (standD qs) none 0 ds).map _ = _; rw [hf]; rfl) dx H' (Same.free s12 h1) (s12.trans h2) h3⟩⟩
  | _ => exact ifT rfl (mk_one (qe _ rfl))
theorem scInSw : FnScope ["self", "place"] ["self", "place"] (defScope sIniSw) := ⟨rfl, rfl, rfl, by decide +kernel, rfl, by decide +kernel, by decide +kernel⟩
theorem ok_iniSw {fd : FuncData} {qual : Str} (F : Fun K "__init__" qual sIniSw fE fd) (TE : ErrC K C fE) : FnOk P w K mg base CX0 1 fE fd ["self", "place"] (spIni C) := by
  refine F.ok scInSw (fun vs H Q E h => ?_) (fun cdv A outer s H vs Q E hr h => ?_)
  · obtain ⟨a, y, rfl, _⟩ := h
    rfl
  · obtain ⟨a, y, rfl, e, q⟩ := h
    exact ⟨_, pss_one (ps_ost (pv 0) (pv 1)), ⟨_, rfl, _, rfl, a, C, rfl, TE.ox, TE.no, .inl ⟨e, fun dx h1 h2 => q dx h1 h2⟩⟩⟩
abbrev NNSw : List Str := ["settings", "switches", "wrong", "switch"]
theorem scNSw : FnScope NNSw ["settings", "switches"] (defScope sNSwitches) := ⟨rfl, rfl, rfl, by decide +kernel, rfl, by decide +kernel, by decide +kernel⟩
theorem ok_needSw {f : Addr} {fd fdI fdSt fdSw fdFw fdE : FuncData} {qual : Str} (F : Fun K "need_switches" "need_switches" sNSwitches f fd) (T : TxtP mg fI fN fS fA fG) (hz : mg "zip" = none) (gSt : mg "is_standing" = some (.ref fSt)) (gSw : mg "is_switch" = some (.ref fSw)) (gFw : mg "first_wrong" = some (.ref fFw)) (gC : mg "BadSwitches" = some (.ref C)) (TE : ErrC K C fE)
    (FI : Fun K "is_int" "is_int" sPInt fI fdI) (bI : Binds K fdI ["thing"] []) (FSt : Fun K "is_standing" "is_standing" sPStand fSt fdSt) (bSt : Binds K fdSt ["settings", "thing"] []) (FSw : Fun K "is_switch" "is_switch" sPSwitch fSw fdSw) (bSw : Binds K fdSw ["settings", "thing"] []) (FFw : Fun K "first_wrong" "first_wrong" sFirstW fFw fdFw) (bFw : Binds K fdFw ["things", "good"] [])
    (FE : Fun K "__init__" qual sIniSw fE fdE) (bE : Binds K fdE ["self", "place"] []) : FnOk P w K mg base (L2.CX P w) 4 f fd ["settings", "switches"] (spNW K C switchD) := by
  have GIs : FnOk P w K mg base CX0 3 fSw fdSw ["settings", "thing"] (spPSwitch K) := ok_pswitch FSw T hz gSt FI bI FSt bSt
  have GFw : FnOk P w K mg base CX0 1 fFw fdFw ["things", "good"] (spFirstW K) := ok_firstw FFw T.enumerate
  have GE : FnOk P w K mg base CX0 1 fE fdE ["self", "place"] (spIni C) := ok_iniSw FE TE
  refine F.okX scNSw (fun vs H Q E h => ?_) (fun cdv A outer s H vs Q E hr h => ?_)
  · obtain ⟨m, l, a, xs, qs, v, d, rfl, _⟩ := h
    rfl
  obtain ⟨m, l, a, xs, qs, v, d, rfl, hs, hp, hl, hd, gd, q, qe⟩ := h
  have hr1 : Room 1 _ := hr.mono (by decide)
  have hrI : Room 3 _ := hr.mono (by decide)
  have hrE : Room 2 _ := hr.mono (by decide)
  refine ⟨_, pss_cons (ps_if (pt_not (pt_val (pe_callB call_isi (by rfl) T.isi PyProof.Rows.boot_isinstance (pa_cons (pv 1) (pa_cons (pe_bltn (v := .ty "tuple") (u := .type "tuple") (by rfl) T.tuple (by decide +kernel) rfl) pa_nil)))))
      (pss_one (ps_raise rfl (takes_of rfl rfl rfl rfl) (pmk_oex TE.ox TE.ini TE.ty GE hrE bE .nil pass0 (by rfl) gC (pa_cons pe_non pa_nil)))) pss_nil)
    (pss_cons (ps_set (i := 2) scNSw.nd rfl (by first | exact Or.inl rfl | exact Or.inr rfl) (pe_call GFw hr1 (by rfl) gFw FFw.kp bFw .nil pass0 (pa_cons (pv 1) (pa_cons
      (pe_lc (own := [("switch", 3)]) (g := gName 3) (by rfl) scNSw.nd (pi_tup (pv 1)) (blkOk_by (own := [("switch", 3)]) (N := NNSw) (sc := defScope sNSwitches) (by decide +kernel))
        (fun _ _ _ _ _ => pg_name (i := 3) scNSw.nd rfl (by first | exact Or.inl rfl | exact Or.inr rfl)) (fun _ _ _ _ _ => pts_nil) (fun _ _ _ _ _ => pe_call GIs hrI (by rfl) gSw FSw.kp bSw .nil pass0 (pa_cons (pv 0) (pa_cons (pv 3) pa_nil)))) pa_nil))))
    (pss_cons (ps_if (pt_cmpR op_notN (pv 2) pe_non (nomark _)) (pss_one (ps_raise rfl (takes_of rfl rfl rfl rfl) (pmk_oex TE.ox TE.ini TE.ty GE hrE bE .nil pass0 (by rfl) gC (pa_cons (pv 2) pa_nil)))) pss_nil)
    (pss_one (ps_ret (pv 1))))), ?_⟩
  refine ⟨_, rfl, v, .ty "tuple", _, _, _, rfl, .ty _, hd.ty, isi_tup K d, _, rfl, ?_⟩
  cases d with
  | tuple ds =>
    cases hd with
    | tup h0 hx =>
      rename_i p ys
      refine ifF rfl ?_
      have ly := hx.len
      have lw : ds.length ≤ 100000 := gd ds rfl
      refine ⟨_, rfl, _, rfl, p, rfl, ⟨_, h0⟩, fun D hD => ?_⟩
      have sD : Same H (upd H D (.lst [])) := Same.upd hD
      refine lc_it (walk_tup (xs := ys)) (fun i H1 => Same H H1 ∧ H1 D = some (.lst (((ds.take i).map (switchD qs)).map V.bl))) ⟨sD, upd_same⟩ (fun i H1 _ ⟨sG, _⟩ => Same.seqT sG h0) ?_ ?_
      · rintro i x H1 H2 hi ⟨sG, gD⟩ ⟨rfl, hx0⟩
        obtain ⟨dd, hdd, dqe⟩ := hx.get hx0
        refine ⟨rfl, _, rfl, _, rfl, m, l, a, xs, qs, x, dd, rfl, Same.seqT sG hs, PrTs.same sG hp, hl, Dq.same sG _ _ dqe, fun H3 s3 => ⟨_, s3 _ _ gD, ?_, fun b o hb => ?_, ?_⟩⟩
        · rw [List.length_map, List.length_map, List.length_take]
          have h5 : (100001 : Nat) ≤ sizeLine := by decide
          omega
        · rw [upd_ne (ne_of_none hb hD)]; exact s3 _ _ (sG _ _ hb)
        · rw [upd_same, List.take_succ, hdd, List.map_append, List.map_append]; rfl
      · rintro H1 ⟨s1, gg0⟩
        rw [List.take_of_length_le (by omega)] at gg0
        have gg : H1 D = some (.lst ((ds.map (switchD qs)).map V.bl)) := gg0
        refine ⟨m, l, p, D, ys, ds, switchD qs, rfl, Same.seqT s1 h0, DqAll.same s1 _ _ hx, gg, (fun d e hd he h1 h2 => let ⟨x1, x2, x3, x4⟩ := switch_alike h1 h2; ⟨x1, x2, x3, Nat.le_trans x4 (by decide)⟩), fun H2 s2 => ?_⟩
        have s12 := s1.trans s2
        cases hf : firstW (switchD qs) none 0 ds with
        | none =>
          have e1 : firstWV (switchD qs) ds = .non := by unfold firstWV; rw [hf]
          rw [e1]
          exact ⟨_, rfl, rfl, _, rfl, ifF rfl ⟨_, rfl, q (by show (firstW (switchD qs) none 0 ds).map _ = none; rw [hf]; rfl) _ s12⟩⟩
        | some i =>
          have e1 : firstWV (switchD qs) ds = .int (i : Nat) := by unfold firstWV; rw [hf]
          rw [e1]
          exact ⟨_, rfl, rfl, _, rfl, ifT rfl ⟨_, rfl, mk_one fun dx H' h1 h2 h3 => qe (.int (i : Nat)) (by show (firstW (switchD qs) none 0 ds).map _ = _; rw [hf]; rfl) dx H' (Same.free s12 h1) (s12.trans h2) h3⟩⟩
  | _ => exact ifT rfl (mk_one (qe _ rfl))
end
end Ms
namespace Ms
open PySem PySem.Spec PyProof.Rows L2
/-! ### what an __init__ leaves as it was; settings that are let by -/
/-- all that was there stays, but at one place -/
def SameX (x : Addr) (H H' : Hp) : Prop := ∀ b o, b ≠ x → H b = some o → H' b = some o
theorem SameX.refl (x : Addr) (H : Hp) : SameX x H H := fun _ _ _ e => e
theorem SameX.thenS {x : Addr} {H H' H'' : Hp} (k : SameX x H H') (s : Same H' H'') : SameX x H H'' := fun b o n e => s b o (k b o n e)
theorem SameX.thenU {x : Addr} {H H' : Hp} {o : HO} (k : SameX x H H') : SameX x H (upd H' x o) := fun b o n e => by rw [upd_ne n]; exact k b o n e
theorem SameX.seqT {K : PySem.W.Frag} {x C dx : Addr} {fs : List (Str × V)} {H H' : Hp} (k : SameX x H H') (hx : H x = some (.ins C dx fs)) {a : Addr} {xs : List V} (h : SqT K H a xs) : SqT K H' a xs := by
  rcases h with (h | ⟨o, h⟩) | h
  · exact .inl (.inl (k _ _ (fun e => by subst e; rw [hx] at h; cases h) h))
  · exact .inl (.inr ⟨o, k _ _ (fun e => by subst e; rw [hx] at h; cases h) h⟩)
  · exact .inr h
theorem SameX.dq {K : PySem.W.Frag} {x C dx m l : Addr} {fs : List (Str × V)} {H H' : Hp} (k : SameX x H H') (hx : H x = some (.ins C dx fs)) (d : PyData) (v : V) (h : Dq K H m l v d) : Dq K H' m l v d :=
  Dq.gen (fun a xs e n1 n2 => ⟨k _ _ (fun z => by subst z; rw [hx] at e; cases e) e, n1, n2⟩) (fun a xs e => k.seqT hx e) (fun a e n1 n2 => ⟨k _ _ (fun z => by subst z; rw [hx] at e; cases e) e, n1, n2⟩) d v h
theorem SameX.free {x : Addr} {H H' : Hp} (k : SameX x H H') {e : Addr} (hx : H' x ≠ none) (h : H' e = none) : H e = none := by
  cases hh : H e with
  | none => rfl
  | some o =>
    by_cases z : e = x
    · subst z; exact absurd h hx
    · rw [k e o z hh] at h; cases h
theorem SameX.same {x : Addr} {H H' : Hp} (k : SameX x H H') (h : H x = none) : Same H H' := fun b o e => k b o (ne_of_none e h) e
/-- settings that are let by are pairs -/
theorem dueGo_pr : ∀ (ds : List PyData) (p : Nat) (seen : List Str) (many r : Int), dueGo p seen many ds = .inr r → ∃ qs, ds = prD qs ∧ ∀ q ∈ qs, 1 ≤ q.2 ∧ q.2 ≤ 3
  | [], _, _, _, _, _ => ⟨[], rfl, fun q h => nomatch h⟩
  | d :: ds, p, seen, many, r, h => by
    simp only [dueGo] at h
    cases eo : oneD d with
    | none => rw [eo] at h; cases h
    | some zc =>
      obtain ⟨z, c⟩ := zc
      rw [eo] at h
      simp only at h
      by_cases hz : z ∈ seen
      · rw [if_pos hz] at h; cases h
      · rw [if_neg hz] at h
        obtain ⟨qs, e, bq⟩ := dueGo_pr ds _ _ _ _ h
        have key : d = .tuple [.str z, .int c] ∧ 1 ≤ c ∧ c ≤ 3 := by
          unfold oneD at eo
          split at eo
          · rename_i z' c'
            by_cases hh : (isName (.str z') && isWhole (.int c') 1 3) = true
            · rw [if_pos hh] at eo
              cases eo
              refine ⟨rfl, ?_⟩
              have h2 := (Bool.and_eq_true _ _ ▸ hh : _ ∧ _).2
              have h3 := (Bool.and_eq_true _ _ ▸ h2 : _ ∧ _)
              exact ⟨of_decide_eq_true h3.1, of_decide_eq_true h3.2⟩
            · rw [if_neg hh] at eo; cases eo
          · cases eo
        refine ⟨(z, c) :: qs, by rw [key.1, e]; rfl, fun q hq => ?_⟩
        rcases List.mem_cons.mp hq with rfl | hq
        · exact key.2
        · exact bq q hq
theorem needV_pr {d : PyData} (h : needV d = none) : ∃ qs, d = .tuple (prD qs) ∧ 1 ≤ qs.length ∧ qs.length ≤ 3 := by
  cases d with
  | tuple ds =>
    have h' : (if 1 ≤ ds.length ∧ ds.length ≤ 3 then (match dueGo 0 [] 1 ds with | .inl p => some (V.int (p : Nat)) | .inr many => if many ≤ 12 then none else some (.str "many")) else some V.non) = none := h
    by_cases hl : 1 ≤ ds.length ∧ ds.length ≤ 3
    · rw [if_pos hl] at h'
      cases eg : dueGo 0 [] 1 ds with
      | inl p => rw [eg] at h'; cases h'
      | inr many =>
        obtain ⟨qs, e, _⟩ := dueGo_pr ds _ _ _ _ eg
        have : ds.length = qs.length := by rw [e]; exact List.length_map ..
        exact ⟨qs, by rw [e], by omega, by omega⟩
    · rw [if_neg hl] at h'; cases h'
  | _ => cases h
theorem prD_trs {K : PySem.W.Frag} {H : Hp} {m l : Addr} : ∀ (qs : List (Str × Int)) (vs : List V), DqAll K H m l vs (prD qs) → PrTs K H vs qs
  | [], _, h => by cases h; exact .nil
  | q :: qs, _, h => by
    cases h with
    | cons h1 h2 =>
      refine .cons ?_ (prD_trs qs _ h2)
      cases h1 with
      | tup e t =>
        cases t with
        | cons t1 t2 =>
          cases t1
          cases t2 with
          | cons t3 t4 =>
            cases t3
            cases t4
            exact ⟨_, rfl, e⟩
end Ms
namespace Ms
open PySem PySem.Spec PyProof.Rows L2
/-- what a drawn place is -/
theorem do_good {z : Str} {r : Int} (hz : sOk 16 z) (h0 : 0 ≤ r) (h1 : r < 16) : Gd big 460 2 (.tuple [.str "do", .str z, .int r]) := by
  have g1 : Gd big 16 0 (.str "do") := Gd.str ⟨by decide, by decide⟩
  have g2 : Gd big 16 0 (.str z) := Gd.str hz
  have g3 : Gd big 104 0 (.int r) := Gd.int (by show r.natAbs ≤ 10 ^ 30; omega) (by decide)
  exact (Gd.tup ((Gl'.one g1).app ((Gl'.one g2).app (Gl'.one g3)))).mono (Nat.le_refl _) (by omega) (by omega)
theorem end_good : Gd big 460 2 (.tuple [.str "end"]) := (Gd.tup (Gl'.one (Gd.str (a := 16) ⟨by decide, by decide⟩))).mono (Nat.le_refl _) (by omega) (by omega)
theorem ints_good : ∀ ns : List Int, (∀ x ∈ ns, 0 ≤ x ∧ x < 16) → Gl' big (105 * ns.length) 0 (ns.map PyData.int)
  | [], _ => ⟨(fun d h => nomatch h), Nat.le_refl _, (fun d h => nomatch h)⟩
  | x :: ns, h => by
    obtain ⟨h0, h1⟩ := h x (List.mem_cons_self ..)
    have g := (Gl'.one (Gd.int (B := big) (i := x) (by show x.natAbs ≤ 10 ^ 30; omega) (by decide))).app (ints_good ns fun y hy => h y (List.mem_cons_of_mem _ hy))
    exact g.mono (Nat.le_refl _) (by simp only [List.length_cons]; omega) (Nat.le_refl _)
theorem ask_good {z : Str} {ns : List Int} (hz : sOk 16 z) (hn : ∀ x ∈ ns, 0 ≤ x ∧ x < 16) (hl : ns.length ≤ 4) : Gd big 460 2 (.tuple [.str "ask", .str z, .tuple (ns.map .int)]) := by
  have g1 : Gd big 16 1 (.str "ask") := (Gd.str (a := 16) ⟨by decide, by decide⟩).mono (Nat.le_refl _) (Nat.le_refl _) (by omega)
  have g2 : Gd big 16 1 (.str z) := (Gd.str hz).mono (Nat.le_refl _) (Nat.le_refl _) (by omega)
  have g3 := Gd.tup (ints_good ns hn)
  exact (Gd.tup ((Gl'.one g1).app ((Gl'.one g2).app (Gl'.one g3)))).mono (Nat.le_refl _) (by omega) (by omega)
theorem ints_dq {K : PySem.W.Frag} {H : Hp} {m l : Addr} : ∀ ns : List Int, DqAll K H m l (ns.map V.int) (ns.map PyData.int)
  | [] => .nil
  | _ :: ns => .cons (.int _) (ints_dq ns)
/-- what a drawn place is: an end, a deed, an ask -/
def plD (qs : List (Str × Int)) (many : Int) (d : PyData) : Prop := d = .tuple [.str "end"] ∨ (∃ (z : Str) (r : Int), d = .tuple [.str "do", .str z, .int r] ∧ nmOk z ∧ 0 ≤ r ∧ r < many) ∨
  ∃ q ∈ qs, ∃ ns : List Int, d = .tuple [.str "ask", .str q.1, .tuple (ns.map .int)] ∧ (ns.length : Int) = q.2 + 1 ∧ ∀ x ∈ ns, 0 ≤ x ∧ x < many
def PlG (qs : List (Str × Int)) (many : Int) (d : PyData) : Prop := Gd big 460 2 d ∧ plD qs many d
end Ms
namespace Ms
open PySem PySem.Spec PyProof.Rows L2
/-! ### what is reached, as bits -/
theorem pow_add_or {x i : Nat} (h : x.testBit i = false) : 2 ^ i + x = 2 ^ i ||| x := by
  have e1 : x = 2 ^ (i + 1) * (x / 2 ^ (i + 1)) + x % 2 ^ (i + 1) := (Nat.div_add_mod x (2 ^ (i + 1))).symm
  generalize x / 2 ^ (i + 1) = q at e1
  have lt := Nat.mod_lt x (Nat.two_pow_pos (i + 1))
  have tb : (x % 2 ^ (i + 1)).testBit i = false := by rw [Nat.testBit_mod_two_pow, h, Bool.and_false]
  generalize x % 2 ^ (i + 1) = r at e1 lt tb
  have r1 : r < 2 ^ i := by
    rcases Nat.lt_or_ge r (2 ^ i) with z | z
    · exact z
    · exfalso
      obtain ⟨t, rfl⟩ : ∃ t, r = 2 ^ i + t := ⟨r - 2 ^ i, by omega⟩
      have p2 : 2 ^ (i + 1) = 2 ^ i + 2 ^ i := by rw [Nat.pow_succ]; omega
      have t1 : t < 2 ^ i := by omega
      rw [Nat.testBit_two_pow_add_eq, Nat.testBit_lt_two_pow t1] at tb
      cases tb
  have p2 : 2 ^ (i + 1) = 2 ^ i + 2 ^ i := by rw [Nat.pow_succ]; omega
  have h1 : 2 ^ i + r < 2 ^ (i + 1) := by omega
  have a1 := Nat.two_pow_add_eq_or_of_lt h1 q
  have a2 := Nat.two_pow_add_eq_or_of_lt lt q
  have a3 := Nat.two_pow_add_eq_or_of_lt r1 1
  rw [Nat.mul_one] at a3
  rw [e1, a2, show 2 ^ i + (2 ^ (i + 1) * q ||| r) = 2 ^ (i + 1) * q + (2 ^ i + r) by rw [← a2]; omega, a1, a3, ← Nat.or_assoc, ← Nat.or_assoc, Nat.or_comm (2 ^ (i + 1) * q)]
def bitsum (l : List Nat) : Nat := (l.map fun k => 2 ^ k).sum
theorem bitsum_at : ∀ {l : List Nat}, l.Nodup → ∀ j, (bitsum l).testBit j = decide (j ∈ l)
  | [], _, j => by simp [bitsum]
  | k :: l, nd, j => by
    obtain ⟨n1, n2⟩ := List.nodup_cons.mp nd
    have e : bitsum (k :: l) = 2 ^ k + bitsum l := rfl
    rw [e, pow_add_or (by rw [bitsum_at n2]; exact decide_eq_false n1), Nat.testBit_or, bitsum_at n2, Nat.testBit_two_pow]
    by_cases c : k = j
    · subst c; simp
    · have c' : j ≠ k := fun z => c z.symm
      simp [c, c']
/-- a step: what comes to k comes to all that k comes to -/
def goThrough (us : List Nat) (k : Nat) : List Nat := us.map fun u => if u.testBit k then u ||| us.getD k 0 else u
theorem go_at {us : List Nat} {k i : Nat} : (goThrough us k).getD i 0 = if (us.getD i 0).testBit k then us.getD i 0 ||| us.getD k 0 else us.getD i 0 := by
  have e0 : (goThrough us k).getD i 0 = ((us[i]?).map fun u => if u.testBit k then u ||| us.getD k 0 else u).getD 0 := by
    unfold goThrough
    rw [List.getD_eq_getElem?_getD, List.getElem?_map]
  have e1 : us.getD i 0 = (us[i]?).getD 0 := List.getD_eq_getElem?_getD ..
  rw [e0, e1]
  cases us[i]? with
  | none =>
    show 0 = if (0 : Nat).testBit k = true then _ else 0
    rw [Nat.zero_testBit, if_neg Bool.false_ne_true]
  | some u => rfl
theorem go_bit {us : List Nat} {k i j : Nat} : ((goThrough us k).getD i 0).testBit j = ((us.getD i 0).testBit j || ((us.getD i 0).testBit k && (us.getD k 0).testBit j)) := by
  rw [go_at]
  by_cases c : (us.getD i 0).testBit k = true
  · rw [if_pos c, Nat.testBit_or, c, Bool.true_and]
  · rw [if_neg c]
    have c' : (us.getD i 0).testBit k = false := by simpa using c
    rw [c', Bool.false_and, Bool.or_false]
/-- closed over the ways through the first k -/
def Clo (us : List Nat) (k : Nat) : Prop := ∀ i m j, m < k → (us.getD i 0).testBit m = true → (us.getD m 0).testBit j = true → (us.getD i 0).testBit j = true
theorem Clo.step {us : List Nat} {k : Nat} (c : Clo us k) : Clo (goThrough us k) (k + 1) := by
  intro i m j hm h1 h2
  rw [go_bit, Bool.or_eq_true, Bool.and_eq_true] at h1 h2 ⊢
  rcases Nat.lt_or_ge m k with lt | ge
  · rcases h1 with h1 | ⟨h1, h1'⟩ <;> rcases h2 with h2 | ⟨h2, h2'⟩
    · exact .inl (c i m j lt h1 h2)
    · exact .inr ⟨c i m k lt h1 h2, h2'⟩
    · exact .inr ⟨h1, c k m j lt h1' h2⟩
    · exact .inr ⟨h1, h2'⟩
  · obtain rfl : m = k := by omega
    rcases h1 with h1 | ⟨h1, h1'⟩ <;> rcases h2 with h2 | ⟨h2, h2'⟩
    · exact .inr ⟨h1, h2⟩
    · exact .inr ⟨h1, h2'⟩
    · exact .inr ⟨h1, h2⟩
    · exact .inr ⟨h1, h2'⟩
def goAll (us : List Nat) : Nat → List Nat
  | 0 => us
  | k + 1 => goThrough (goAll us k) k
theorem goAll_len (us : List Nat) : ∀ k, (goAll us k).length = us.length
  | 0 => rfl
  | k + 1 => by unfold goAll goThrough; rw [List.length_map, goAll_len us k]
theorem goAll_clo (us : List Nat) : ∀ k, Clo (goAll us k) k
  | 0 => fun i m j h => absurd h (Nat.not_lt_zero _)
  | k + 1 => (goAll_clo us k).step
theorem goAll_more (us : List Nat) {i j : Nat} (h : (us.getD i 0).testBit j = true) : ∀ k, ((goAll us k).getD i 0).testBit j = true
  | 0 => h
  | k + 1 => by
    show ((goThrough (goAll us k) k).getD i 0).testBit j = true
    rw [go_bit, goAll_more us h k, Bool.true_or]
/-! ### how many pairs of groups there can be -/
def codeP (p : List Int) : Nat := match p with
  | [a, b] => min a.toNat b.toNat * 12 + max a.toNat b.toNat
  | _ => 0
def codes11 : List Nat := (List.range 11).flatMap fun x => (List.range 11).filterMap fun y => if x ≤ y then some (x * 12 + y) else none
def codes12 : List Nat := (List.range 12).flatMap fun x => (List.range 12).filterMap fun y => if x < y then some (x * 12 + y) else none
theorem codes11_len : codes11.length = 66 := by decide +kernel
theorem codes12_len : codes12.length = 66 := by decide +kernel
theorem pairs_few {zs : List (List Int)} {m : Nat} (nd : zs.Nodup) (two : ∀ z ∈ zs, ∃ a b : Nat, z = [(a : Int), (b : Int)] ∧ a < m ∧ b < m) (hm : m ≤ 12) (anti : ∀ a b : Nat, [(a : Int), (b : Int)] ∈ zs → [(b : Int), (a : Int)] ∈ zs → a = b) (irr : m = 12 → ∀ a : Nat, [(a : Int), (a : Int)] ∉ zs) : zs.length ≤ 76 := by
  have inj : ∀ z ∈ zs, ∀ y ∈ zs, codeP z = codeP y → z = y := by
    intro z hz y hy e
    obtain ⟨a, b, rfl, ha, hb⟩ := two z hz
    obtain ⟨c, d, rfl, hc, hd⟩ := two y hy
    have e' : min a b * 12 + max a b = min c d * 12 + max c d := e
    have e1 : min a b = min c d ∧ max a b = max c d := by omega
    have cs : (a = c ∧ b = d) ∨ (a = d ∧ b = c) := by omega
    rcases cs with ⟨rfl, rfl⟩ | ⟨rfl, rfl⟩
    · rfl
    · have := anti a b hz hy
      rw [this]
  have nd2 : (zs.map codeP).Nodup := List.pairwise_map.mpr (List.Pairwise.imp_of_mem (fun {z y} hz hy ne e => ne (inj z hz y hy e)) nd)
  rcases Nat.lt_or_ge m 12 with lt | ge
  · have h := nat_nodup_len (zs.map codeP) codes11 nd2 fun x hx => by
      obtain ⟨z, hz, rfl⟩ := List.mem_map.mp hx
      obtain ⟨a, b, rfl, ha, hb⟩ := two z hz
      refine List.mem_flatMap.mpr ⟨min a b, List.mem_range.mpr (by omega), List.mem_filterMap.mpr ⟨max a b, List.mem_range.mpr (by omega), ?_⟩⟩
      rw [if_pos (by omega)]
      rfl
    rw [List.length_map, codes11_len] at h
    omega
  · obtain rfl : m = 12 := by omega
    have h := nat_nodup_len (zs.map codeP) codes12 nd2 fun x hx => by
      obtain ⟨z, hz, rfl⟩ := List.mem_map.mp hx
      obtain ⟨a, b, rfl, ha, hb⟩ := two z hz
      have ne : a ≠ b := fun e => irr rfl a (by rw [e] at hz ⊢; exact hz)
      refine List.mem_flatMap.mpr ⟨min a b, List.mem_range.mpr (by omega), List.mem_filterMap.mpr ⟨max a b, List.mem_range.mpr (by omega), ?_⟩⟩
      rw [if_pos (by omega)]
      rfl
    rw [List.length_map, codes12_len] at h
    omega
end Ms
namespace Ms
open PySem PySem.Spec PyProof.Rows L2
/-! ### {k: v for target in iter}, the keys tuples of ints and texts; d[t], t such a tuple wherever it stands -/
theorem put_t {X : Cx} {pins : List (Addr × Obj)} {σ : L2.St} {H : Hp} {s : Shared} {E : Value → Shared → Prop} {D b : Addr} {kvs : List (List Key × V)} {k : List Key} {v : V} {r : Value} {Q : Unit → Shared → Prop} (hu : X.A.units + 1 < cLine) (I : L2.Inv X pins σ H s)
    (hD : H D = some (.dT kvs)) (hb : H b = some (.tup (k.map kV))) (hl : kvs.length < sizeLine) (rv : RelV v r) (q : ∀ s', L2.Inv X pins σ (upd H D (.dT (putK kvs k v))) s' → Q () s') : wpAny (model X.prog X.w) X.A (dictSet D (.ref b) r) Q E s := by
  obtain ⟨z, hd, xs, rel, dd⟩ := dt_of I.hok hD
  have lx : xs.length ≤ sizeLine := by rw [← Paired.length rel]; exact z
  have lp : (putK kvs k v).length ≤ sizeLine := by
    have e := length_putK kvs k v
    omega
  refine wpAny_dictSet_heap (hsz := lx) (show (tupleKind (mixKind X.prog X.w)).room X.A from by show X.A.units < cLine; omega) (key_of I.hok hb) dd fun h' dd' sb => q _ ?_
  obtain ⟨o, es, ep, e1, e2, e3, e4, _, e5⟩ := dd'
  refine d_write I (by rw [hD]; exact True.intro) sb ⟨o, e1⟩ ⟨lp, hd, _, (rel.put k hb rv).keeps fun c ys ec => ?_, o, es, ep, e1, e2, e3, e4, e5⟩
  rw [upd_ne (ne_of ec hD fun z => nomatch z)]
  exact ec
/-- D: the new dict -/
def tDcT (wi : TI) (g : TG) (tk tv : TE) (vs : List Nat) : TE := fun σ H Q => wi σ H fun J H1 => ∀ D, H1 D = none → ∃ W : Nat → Nat → Hp → Prop, (∃ m, W 0 m (upd H1 D (.dT []))) ∧ ∀ i m H, W i m H →
  (J.stop i H ∧ Q (.ref D) H) ∨ (J.go i H ∧ ∃ Nx : Hp → Prop, (∀ H', Nx H' → ∃ m', m' < m ∧ W (i + 1) m' H') ∧ ∀ x H', J.yld i H x H' → g x (wipe σ vs) H' fun σ2 H2 => wipe σ2 vs = wipe σ vs ∧
    tk σ2 H2 fun y H4 => tv σ2 H4 fun z H5 => ∃ kvs k b, y = .ref b ∧ H5 b = some (.tup (k.map kV)) ∧ H5 D = some (.dT kvs) ∧ kvs.length < sizeLine ∧ Nx (upd H5 D (.dT (putK kvs k z))))
section
variable {X : Cx}
theorem dcT_core {pins : List (Addr × Obj)} {s : Shared} {σ : L2.St} {H : Hp} {Q : VK} {use : Option (Value → Sem Unit)} {Qf : Value → Shared → Prop} {ek ev tg iter : Expr} {scope : Scope} {own : List (Str × Nat)} {pos pos' : Pos} {wi : TI} {g : TG} {tk tv : TE} (hc : X.calm = true) (hu : X.A.units + 1 < cLine) (hN : X.N.Nodup) (hi : PI X tg iter wi) (ok : BlkOk X.N X.env.scope scope own)
    (hg : ∀ (s : Shared) (H : Hp) (C : Addr) (cl : List (Str × Addr)) (fp : List Addr), PG (X.blk s H scope (compEnvC scope cl C X.env) fp) tg g) (hk : ∀ (s : Shared) (H : Hp) (C : Addr) (cl : List (Str × Addr)) (fp : List Addr), PE (X.blk s H scope (compEnvC scope cl C X.env) fp) ek tk)
    (hv : ∀ (s : Shared) (H : Hp) (C : Addr) (cl : List (Str × Addr)) (fp : List Addr), PE (X.blk s H scope (compEnvC scope cl C X.env) fp) ev tv) (nf : ∀ x, foldedSetIterable iter X.env x = pure x) (I : L2.Inv X pins σ H s) (q : tDcT wi g tk tv (own.map (·.2)) σ H Q)
    (end_ : ∀ D C s' m H', L2.Inv X pins σ H' s' → Q (.ref D) H' → s'.heap.Ns C m → FpOk X pins H' C → compPost (model X.prog X.w) X.A X.xe use Qf (.ref D) C (.ok .next) s') :
    wpAny (model X.prog X.w) X.A (comprehension (.DictComp ek ev [⟨tg, iter, [], 0⟩] scope pos) scope X.env pos' newDict false (eval iter X.env) use) Qf X.xe s := by
  have free : ∀ y ∈ scope.names, y.2 = .free → ∃ c, X.env.cells.lookup y.1 = some c := fun y hy e => (ok.free y hy e).elim (fun z => I.ok.has _ (.inl z)) fun z => I.ok.has _ (.inr z)
  refine wpAny_comprehension_free (use := use) rfl nf (closure_ok free) ok.kind (fun y hy e => by rw [ok.uniq y hy, e]) (thn (hi.run pins s σ H _ I q) fun itV sA w => thn w fun itV sB w => ?_)
  obtain ⟨it, fp, tn, J, HB, rfl, IB, T, stB, fpB, go⟩ := w
  refine wpAny_newObj_type (newEnv_comp ?_)
  obtain ⟨D, eD⟩ : ∃ D, D = sB.heap.objs.size := ⟨_, rfl⟩
  rw [← eD]
  obtain ⟨W, ⟨m0, w0⟩, turn⟩ := go D (IB.hok.fresh (Nat.le_of_eq eD.symm))
  obtain ⟨sC, eC⟩ : ∃ sC : Shared, sC = { sB with heap := sB.heap.push { cls := .type "dict", data := .dict #[] } } := ⟨_, rfl⟩
  have hC : sC.heap = sB.heap.push { cls := .type "dict", data := .dict #[] } := by rw [eC]
  have IC : L2.Inv X pins σ (upd HB D (.dT [])) sC := by
    have new : ObjOk X.prog X.w (upd HB D (.dT [])) (sB.heap.push { cls := .type "dict", data := .dict #[] }) D (.dT []) := by rw [eD]; exact dt_empty sB.heap IB.big
    rw [eC]
    exact IB.laid (t' := sB.toks) (fun b o e => Heap.get?_push_of_some _ e) (Nat.le_of_eq eD.symm) new
  rw [← hC]
  have below : ∀ b ∈ fp, b < sB.heap.objs.size := fun b hb => let ⟨o, e, _⟩ := T.obj _ _ stB b hb; Heap.lt_size e
  have fpC : ∀ b ∈ fp, FpOk X pins (upd HB D (.dT [])) b ∧ b < sC.heap.objs.size := fun b hb => by
    obtain ⟨f1, f2⟩ := fpB b hb
    have lt := below b hb
    refine ⟨⟨(upd_ne (by rw [eD]; exact Nat.ne_of_lt lt)).trans f1, f2⟩, ?_⟩
    rw [hC, Heap.size_push]
    exact Nat.lt_succ_of_lt lt
  have stC : tn 0 sC.heap := T.keep _ _ _ stB fun b _ o e => by rw [hC]; exact Heap.get?_push_of_some _ e
  have IE := block_start IC ok hN fpC
  obtain ⟨C, hCn⟩ : ∃ C, C = sC.heap.objs.size := ⟨_, rfl⟩
  obtain ⟨cl, ecl⟩ : ∃ cl, cl = cellsFrom (C + 1) scope.names (cloFrom X.env.cells scope.names []) := ⟨_, rfl⟩
  obtain ⟨ce, ece⟩ : ∃ ce, ce = compEnvC scope cl C X.env := ⟨_, rfl⟩
  rw [← hCn, ← ecl, ← ece] at IE
  have pg := hg sC (upd HB D (.dT [])) C cl fp
  have pk := hk sC (upd HB D (.dT [])) C cl fp
  have pv' := hv sC (upd HB D (.dT [])) C cl fp
  rw [← ece] at pg pk pv'
  have ceL : ce.locals = C := by rw [ece]; rfl
  obtain ⟨sE, eE⟩ : ∃ sE : Shared, sE = { sC with heap := pushCells (sC.heap.push { cls := .type "dict", data := .dict #[] }) scope.names } := ⟨_, rfl⟩
  rw [← eE] at IE
  have stE : tn 0 sE.heap := T.keep _ _ _ stC fun b _ o e => by rw [eE]; exact pushCells_keeps _ _ _ _ (Heap.get?_push_of_some _ e)
  obtain ⟨HC, eHC⟩ : ∃ HC, HC = upd HB D (.dT []) := ⟨_, rfl⟩
  rw [← eHC] at IC IE pg pk pv' w0 fpC
  have stands : ∀ {σ' : L2.St} {H' : Hp} {s' : Shared}, L2.Inv (X.blk sC HC scope ce fp) [] σ' H' s' → (∀ b ∈ fp, H' b = none) → ∀ b ∈ fp, FpOk (X.blk sC HC scope ce fp) [] H' b := fun I' no b hb =>
    ⟨no b hb, (I'.ok.exf b hb).1, I'.ok.exfs b hb, .inl hb, fun x c e => (I'.ok.exf b hb).2 x c e, fun p hp => by cases hp⟩
  have loop : codeAny (model X.prog X.w) X.A (.compLoop (.DictComp ek ev [⟨tg, iter, [], 0⟩] scope pos) 0 (.ref it) (.ref D) ce) (compPost (model X.prog X.w) X.A X.xe use Qf (.ref D) C) sE := by
    refine compLoop_anyD (fun n s' => ∃ i H', L2.Inv (X.blk sC HC scope ce fp) [] (wipe σ (own.map (·.2))) H' s' ∧ tn i s'.heap ∧ (∀ b ∈ fp, H' b = none) ∧ W i n H') ?_ m0 ⟨0, HC, IE, stE, fun b hb => (fpC b hb).1.1, w0⟩
    rintro n s5 ⟨i, H5, I5, st5, no5, w5⟩
    rcases turn i n H5 w5 with ⟨stop, fin⟩ | ⟨more, Nx, hNx, step⟩
    · refine thnF (T.done (X.blk sC HC scope ce fp) rfl rfl rfl hc i [] s5 _ H5 (fun _ _ => False) I5 (stands I5 no5) st5 stop) fun r s6 w => ?_
      obtain ⟨rfl, I6⟩ := w
      have I7 : L2.Inv X pins σ H5 s6 := IC.call' (ch := fp) I6.os I6.base I6.hok I6.bare fun b hb => let f := (fpC b hb).1.2; ⟨f.2.2.1, f.1, f.2.2.2.1, f.2.2.2.2⟩
      have nC : H5 C = none := by
        have z : H5 ce.locals = none := I6.free
        rwa [ceL] at z
      obtain ⟨m, hn, _⟩ := I6.loc
      have hn : s6.heap.Ns ce.locals m := hn
      rw [ceL] at hn
      exact end_ D C s6 m H5 I7 fin hn (IC.fpOk (H' := H5) (Nat.le_of_eq hCn.symm) nC)
    · refine thnF (T.item (X.blk sC HC scope ce fp) rfl rfl rfl hc i [] s5 _ H5 (fun _ _ => False) I5 (stands I5 no5) st5 more) fun r s6 w => ?_
      obtain ⟨u, rfl, w6⟩ := w
      refine thnF w6 fun _ s7 w => ?_
      obtain ⟨x, H7, I7, r7, y7, st7, no7⟩ := w
      have I8 := I7.pinned (stands I7 no7) (T.obj _ _ st7)
      refine thnF (pg.run _ s7 _ H7 x u _ I8 r7 (step x H7 y7)) fun _ s8 w => ?_
      obtain ⟨σ8, H8, I9, wp8, q8⟩ := w
      refine wpAny_tests_nil ?_
      rw [if_pos rfl]
      refine thnF (pk.run _ s8 σ8 H8 _ I9 q8) fun uk s9 w => ?_
      obtain ⟨yk, H9, IA, rk, q9⟩ := w
      refine thnF (pv'.run _ s9 σ8 H9 _ IA q9) fun uv sA' w => ?_
      obtain ⟨yv, HA, IF, rv, kvs, k, b, rfl, hb, hD, hl, nx⟩ := w
      obtain rfl : uk = Value.ref b := rk
      refine put_t (X := X.blk sC HC scope ce fp) hu IF hD hb hl rv fun sG IG => ?_
      obtain ⟨m', lt, w'⟩ := hNx _ nx
      have stays : ∀ b ∈ fp, ∀ o, s7.heap.get? b = some o → sG.heap.get? b = some o ∧ upd HA D (.dT (putK kvs k yv)) b = none := fun b hb o e =>
        have z := IG.pin (b, o) (List.mem_append_right _ (List.mem_append_right _ (mem_pinsAt hb e)))
        ⟨z.1, z.2.1⟩
      refine ⟨m', lt, i + 1, _, (IG.unpinned (pins := [])).weak (by rw [← wp8, wipe_length]) (fun j v e => ?_), T.keep _ _ _ st7 fun b hb o e => (stays b hb o e).1, fun b hb => ?_, w'⟩
      · rw [← wp8] at e
        exact (wipe_some e).1
      · obtain ⟨o, e, _⟩ := T.obj _ _ st7 b hb
        exact (stays b hb o e).2
  subst eE ece ecl hCn eC
  exact codeAny_compStart_dict loop (T.self X.A 0 _ _ _ stE loop)
theorem pe_dcT {ek ev tg iter : Expr} {scope : Scope} {own : List (Str × Nat)} {pos : Pos} {wi : TI} {g : TG} {tk tv : TE} (hc : X.calm = true) (hu : X.A.units + 1 < cLine) (hN : X.N.Nodup) (hi : PI X tg iter wi) (ok : BlkOk X.N X.env.scope scope own)
    (hg : ∀ (s : Shared) (H : Hp) (C : Addr) (cl : List (Str × Addr)) (fp : List Addr), PG (X.blk s H scope (compEnvC scope cl C X.env) fp) tg g) (hk : ∀ (s : Shared) (H : Hp) (C : Addr) (cl : List (Str × Addr)) (fp : List Addr), PE (X.blk s H scope (compEnvC scope cl C X.env) fp) ek tk)
    (hv : ∀ (s : Shared) (H : Hp) (C : Addr) (cl : List (Str × Addr)) (fp : List Addr), PE (X.blk s H scope (compEnvC scope cl C X.env) fp) ev tv) (nf : ∀ x, foldedSetIterable iter X.env x = pure x := by intro _; rfl) :
    PE X (.DictComp ek ev [⟨tg, iter, [], 0⟩] scope pos) (tDcT wi g tk tv (own.map (·.2))) := by
  refine ⟨fun pins s σ H Q I q => ?_⟩
  rw [arm_eval_DictComp]
  refine dcT_core hc hu hN hi ok hg hk hv nf I q fun D C s' m H' J fin hn f => ⟨m, hn, fun h2 sb => ?_⟩
  exact ⟨.ref D, H', J.turned (t' := s'.toks) (fun b o hb e => (sb.2 b hb).trans e) f.1 f.2.1 f.2.2.2.1 f.2.2.2.2.1 f.2.2.2.2.2, rfl, fin⟩
theorem sw_dict {ek ev : Expr} {gs : List Comprehension} {scope : Scope} {pos py : Pos} {y : Str} {l : Nat} {env : Env} (hk : env.scope.kind = .function) (hy : env.scope.names.lookup y = some .local) (hl : (py.line == pos.line) = true)
    (ha : (scope.names.any fun (n, k) => n == y && (k == .local || k == .cell)) = false) : swapsWith (.DictComp ek ev gs scope pos) (some (.Name y py)) l env = pure true := by
  have k1 : env.kindOf y = some .local := hy
  have k2 : env.blockKind = .function := by unfold Env.blockKind; rw [hk]; rfl
  unfold swapsWith
  simp only [k2, k1, ha, Expr.pos, hl]
  rfl
/-- name = {..} on one line, the name a local -/
theorem ps_setDcT {i : Nat} {y : Str} {py : Pos} {ek ev tg iter : Expr} {scope : Scope} {own : List (Str × Nat)} {pos spos : Pos} {wi : TI} {g : TG} {tk tv : TE} (hc : X.calm = true) (hu : X.A.units + 1 < cLine) (hN : X.N.Nodup) (hy : X.N[i]? = some y) (hyl : X.env.scope.names.lookup y = some .local)
    (hsw : swapsWith (.DictComp ek ev [⟨tg, iter, [], 0⟩] scope pos) (some (.Name y py)) spos.line X.env = pure true) (hi : PI X tg iter wi) (ok : BlkOk X.N X.env.scope scope own)
    (hg : ∀ (s : Shared) (H : Hp) (C : Addr) (cl : List (Str × Addr)) (fp : List Addr), PG (X.blk s H scope (compEnvC scope cl C X.env) fp) tg g) (hk : ∀ (s : Shared) (H : Hp) (C : Addr) (cl : List (Str × Addr)) (fp : List Addr), PE (X.blk s H scope (compEnvC scope cl C X.env) fp) ek tk)
    (hv : ∀ (s : Shared) (H : Hp) (C : Addr) (cl : List (Str × Addr)) (fp : List Addr), PE (X.blk s H scope (compEnvC scope cl C X.env) fp) ev tv) (nf : ∀ x, foldedSetIterable iter X.env x = pure x := by intro _; rfl) :
    PS X (.Assign [.Name y py] (.DictComp ek ev [⟨tg, iter, [], 0⟩] scope pos) spos) (tAsg (tDcT wi g tk tv (own.map (·.2))) (gName i)) := by
  refine ⟨fun pins s σ H D I h => ?_⟩
  rw [exec_Assign_Name_used _ _ _ _ hsw]
  refine wpAny_bind (wpAny_standAt (wpAny_bind ?_))
  show wpAny _ X.A (do let _ ← comprehension (.DictComp ek ev [⟨tg, iter, [], 0⟩] scope pos) scope X.env (firstIterPos [⟨tg, iter, [], 0⟩] pos) newDict false (eval iter X.env) (some (assign (.Name y py) X.env))) _ _ s
  have q : tDcT wi g tk tv (own.map (·.2)) σ H (fun x H1 => gName i x σ H1 D.nx) := h
  refine wpAny_bind (thn (dcT_core (Qf := fun _ s' => SP X pins D .next s') hc hu hN hi ok hg hk hv nf I q fun L C s' m H' J fin hn f => ?_) fun _ s' z => wpAny_pure (wpAny_pure z))
  show wpAny _ _ (assign (.Name y py) X.env (.ref L)) _ _ _
  refine wpAny_assign_Name (store_ok2 (v := V.ref L) J hN hy (.inl hyl) rfl (fun s2 J2 ⟨a, sb, ha⟩ => ?_) (.inr hyl))
  have ne : C ≠ a := by
    rcases ha with z | z
    · rw [z]; exact f.2.1
    · exact fun e => f.2.2.2.2.1 y a z e.symm
  exact ⟨m, hn.sameBut sb ne, fun h3 sb3 => ⟨_, H', J2.turned (t' := s2.toks) (fun b o hb e => (sb3.2 b hb).trans e) f.1 f.2.1 f.2.2.2.1 f.2.2.2.2.1 f.2.2.2.2.2, fin⟩⟩
/-- d[t]: t is a tuple of ints and texts, wherever it stands -/
def tDGetT (K : PySem.W.Frag) (td ty : TE) : TE := fun σ H Q => td σ H fun x H1 => ty σ H1 fun y H2 => ∃ a kvs k b v, x = .ref a ∧ Rd H2 a (.dT kvs) ∧ y = .ref b ∧ SqT K H2 b (k.map kV) ∧ valV kvs k = some v ∧ Q v H2
theorem pe_dgetT {o i : Expr} {pos : Pos} {td ty : TE} (hu : X.A.units + 1 < cLine) (ho : PE X o td) (hi : PE X i ty) (hs : NoSl i) : PE X (.Subscript o i pos) (tDGetT X.K td ty) := by
  refine ⟨fun pins s σ H Q I h => ?_⟩
  have part : ∀ u s1, (∃ x H1, L2.Inv X pins σ H1 s1 ∧ RelV x u ∧ (fun x H1 => ty σ H1 fun y H2 => ∃ a kvs k b v, x = .ref a ∧ Rd H2 a (.dT kvs) ∧ y = .ref b ∧ SqT X.K H2 b (k.map kV) ∧ valV kvs k = some v ∧ Q v H2) x H1) →
      wpAny (model X.prog X.w) X.A (eval i X.env) (fun iv s2 => s2.TypeIs u "dict" ∧ wpAny (model X.prog X.w) X.A (getItem u iv) (EP X pins σ Q) X.xe s2) X.xe s1 := by
    rintro u s1 ⟨x, H1, I1, rx, q1⟩
    refine thn (hi.run pins s1 σ H1 _ I1 q1) fun iv s2 w => ?_
    obtain ⟨y, H2, I2, ry, a, kvs, k, b, v, rfl, hd, rfl, hb, hv, q⟩ := w
    obtain rfl : u = Value.ref a := rx
    obtain rfl : iv = Value.ref b := ry
    obtain ⟨z, hd', xs, rel, dd⟩ := dt_rd I2.hok hd
    obtain ⟨its, rv, ⟨o, ho, hc, n, hdt⟩, _⟩ := I2.tuple hb
    have key : (tupleKind (mixKind X.prog X.w)).is s2.heap k b := ⟨o, its.toArray, n, ho, hc, hdt, by simpa using items_are rv⟩
    obtain ⟨w', hw, rw'⟩ := RelO.some_of (v := v) (o := (atKey xs k).map (·.2)) (by rw [← hv]; exact rel.val k)
    obtain ⟨p, hp, rfl⟩ := Option.map_eq_some_iff.mp hw
    exact ⟨dd.typeIs, wpAny_getItem_heap (tupleKind_room_in1 hu) key dd hp ⟨v, H2, I2.tok _, rw', q⟩⟩
  exact subD_of PySem.F.slot_dict_getitem.lookup hs (thn (ho.run pins s σ H _ I h) part)
theorem pe_dgetK (K : PySem.W.Frag) {o i : Expr} {pos : Pos} {td ty : TE} (hu : X.A.units + 1 < cLine) (ho : PE X o td) (hi : PE X i ty) (hs : NoSl i) (hK : X.K = K := by rfl) : PE X (.Subscript o i pos) (tDGetT K td ty) := by
  subst hK
  exact pe_dgetT hu ho hi hs
theorem pt_truthK (K : PySem.W.Frag) {a : Expr} {ta : TE} (ha : PE X a ta) (he : ∀ whole, isTrue a X.env whole = (do let v ← whole; standAt a.pos; holding [v] (truthy v))) (hK : X.K = K := by rfl) : PT X a (fun σ H Q => ta σ H fun x H' => ∃ k, TruV K x H' k ∧ Q k H') := by
  subst hK
  exact pt_truth ha he
end
end Ms
namespace Ms
open PySem PySem.Spec PyProof.Rows L2
/-! ### rows and pairs of rows as data -/
def rowD (r : List Int) : PyData := .tuple (r.map PyData.int)
def pairD (r s : List Int) : PyData := .tuple [rowD r, rowD s]
def gridD (qs : List (Str × Int)) : PyData := .tuple ((grid qs).map rowD)
/-- pairs of rows, wherever they stand -/
inductive Prq (K : PySem.W.Frag) (H : Hp) : List V → List (List Int × List Int) → Prop
  | nil : Prq K H [] []
  | cons {p b c : Addr} {vs : List V} {q : List Int × List Int} {ps : List (List Int × List Int)} : SqT K H p [.ref b, .ref c] → SqT K H b (q.1.map V.int) → SqT K H c (q.2.map V.int) → Prq K H vs ps → Prq K H (.ref p :: vs) (q :: ps)
section
variable {K : PySem.W.Frag} {H H' : Hp} {m l : Addr}
theorem Prq.gen (k : ∀ a xs, SqT K H a xs → SqT K H' a xs) {vs : List V} {ps : List (List Int × List Int)} (p : Prq K H vs ps) : Prq K H' vs ps := by
  induction p with
  | nil => exact .nil
  | cons h1 h2 h3 _ ih => exact .cons (k _ _ h1) (k _ _ h2) (k _ _ h3) ih
theorem Prq.same (s : Same H H') {vs : List V} {ps : List (List Int × List Int)} (p : Prq K H vs ps) : Prq K H' vs ps := p.gen fun _ _ h => Same.seqT s h
theorem Prq.snoc {vs : List V} {ps : List (List Int × List Int)} {a b c : Addr} {q : List Int × List Int} (p : Prq K H vs ps) (h1 : SqT K H a [.ref b, .ref c]) (h2 : SqT K H b (q.1.map V.int)) (h3 : SqT K H c (q.2.map V.int)) : Prq K H (vs ++ [.ref a]) (ps ++ [q]) := by
  induction p with
  | nil => exact .cons h1 h2 h3 .nil
  | cons g1 g2 g3 _ ih => exact .cons g1 g2 g3 ih
theorem Prq.len {vs : List V} {ps : List (List Int × List Int)} (p : Prq K H vs ps) : vs.length = ps.length := by
  induction p with
  | nil => rfl
  | cons _ _ _ _ ih => simp [ih]
theorem Prq.dq {vs : List V} {ps : List (List Int × List Int)} (p : Prq K H vs ps) : DqAll K H m l vs (ps.map fun q => pairD q.1 q.2) := by
  induction p with
  | nil => exact .nil
  | cons h1 h2 h3 _ ih => exact .cons (.tup h1 (.cons (.tup h2 (ints_dq _)) (.cons (.tup h3 (ints_dq _)) .nil))) ih
end
theorem eqv_intsB : ∀ ns ms : List Int, PyData.eqvAll (ns.map .int) (ms.map .int) = decide (ns = ms)
  | [], [] => rfl
  | [], _ :: _ => rfl
  | _ :: _, [] => rfl
  | n :: ns, m :: ms => by
    show (PyData.eqv (.int n) (.int m) && PyData.eqvAll (ns.map .int) (ms.map .int)) = _
    rw [eqv_intsB ns ms]
    have h1 : PyData.eqv (.int n) (.int m) = decide (n = m) := by
      show (n == m) = decide (n = m)
      rw [Bool.eq_iff_iff]; simp
    rw [h1, Bool.eq_iff_iff]
    simp
theorem eqv_rowD (r s : List Int) : PyData.eqv (rowD r) (rowD s) = decide (r = s) := by
  have : PyData.eqv (rowD r) (rowD s) = PyData.eqvAll (r.map .int) (s.map .int) := by unfold rowD; rw [PyData.eqv]
  rw [this, eqv_intsB]
theorem Prq.get {K : PySem.W.Frag} {H : Hp} {vs : List V} {ps : List (List Int × List Int)} (p : Prq K H vs ps) : ∀ {i : Nat} {v : V}, vs[i]? = some v → ∃ q a b c, ps[i]? = some q ∧ v = .ref a ∧ SqT K H a [.ref b, .ref c] ∧ SqT K H b (q.1.map V.int) ∧ SqT K H c (q.2.map V.int) := by
  induction p with
  | nil => intro i v h; simp at h
  | cons h1 h2 h3 _ ih =>
    intro i v h
    cases i with
    | zero =>
      simp at h
      subst h
      exact ⟨_, _, _, _, rfl, rfl, h1, h2, h3⟩
    | succ i => exact ih (by simpa using h)
/-! ### dicts with rows as keys -/
def rowK (r : List Int) : List Key := r.map Sum.inl
theorem rowK_V (r : List Int) : (rowK r).map kV = r.map V.int := by
  unfold rowK
  rw [List.map_map]
  rfl
theorem rowK_inj : ∀ {r s : List Int}, rowK r = rowK s → r = s
  | [], [], _ => rfl
  | [], _ :: _, h => by cases h
  | _ :: _, [], h => by cases h
  | x :: xs, y :: ys, h => by
    have h' : (Sum.inl x : Key) :: rowK xs = Sum.inl y :: rowK ys := h
    injection h' with h1 h2
    injection h1 with h1
    rw [h1, rowK_inj h2]
def rowTab (rs : List (List Int)) (vs : List V) : List (List Key × V) := (rs.zip vs).map fun p => (rowK p.1, p.2)
theorem rowTab_len {rs : List (List Int)} {vs : List V} (h : rs.length = vs.length) : (rowTab rs vs).length = rs.length := by
  unfold rowTab
  rw [List.length_map, List.length_zip, h, Nat.min_self]
theorem rowTab_none {r : List Int} : ∀ {rs : List (List Int)} {vs : List V}, r ∉ rs → valV (rowTab rs vs) (rowK r) = none
  | [], _, _ => rfl
  | _ :: _, [], _ => rfl
  | s :: rs, v :: vs, h => by
    obtain ⟨h1, h2⟩ : r ≠ s ∧ r ∉ rs := by simpa using h
    show valV ((rowK s, v) :: rowTab rs vs) (rowK r) = none
    rw [valV_neg (fun e => h1 (rowK_inj e).symm)]
    exact rowTab_none h2
theorem rowTab_at {r : List Int} {v : V} : ∀ {rs : List (List Int)} {vs : List V} {i : Nat}, rs.Nodup → rs[i]? = some r → vs[i]? = some v → valV (rowTab rs vs) (rowK r) = some v
  | [], _, i, _, h, _ => by simp at h
  | _ :: _, [], i, _, _, h => by simp at h
  | s :: rs, w :: vs, 0, nd, h1, h2 => by
    simp at h1 h2
    subst h1 h2
    show valV ((rowK s, w) :: rowTab rs vs) (rowK s) = some w
    exact valV_pos rfl
  | s :: rs, w :: vs, i + 1, nd, h1, h2 => by
    obtain ⟨n1, n2⟩ := List.nodup_cons.mp nd
    have h1' : rs[i]? = some r := by simpa using h1
    show valV ((rowK s, w) :: rowTab rs vs) (rowK r) = some v
    rw [valV_neg (fun e => n1 (by rw [rowK_inj e]; exact List.mem_of_getElem? h1'))]
    exact rowTab_at n2 h1' (by simpa using h2)
theorem rowTab_put {r : List Int} {v : V} {rs : List (List Int)} {vs : List V} (h : r ∉ rs) (l : rs.length = vs.length) : putK (rowTab rs vs) (rowK r) v = rowTab (rs ++ [r]) (vs ++ [v]) := by
  rw [putK_new _ (rowTab_none h)]
  unfold rowTab
  rw [List.zip_append l, List.map_append]
  rfl
/-- a dict by comprehension over a walk -/
theorem dcT_it {J : It} {n : Nat} {G : Hp → Prop} {Y : Nat → Hp → V → Hp → Prop} (w : Walk J n G Y) {g : TG} {tk tv : TE} {vs : List Nat} {σ : L2.St} {H1 : Hp} {D : Addr} {Qd : Hp → Prop} (Pv : Nat → Hp → Prop) (h0 : Pv 0 (upd H1 D (.dT []))) (hG : ∀ i H, i ≤ n → Pv i H → G H)
    (hs : ∀ i x H H', i < n → Pv i H → Y i H x H' → g x (wipe σ vs) H' fun σ2 H2 => wipe σ2 vs = wipe σ vs ∧ tk σ2 H2 fun y H4 => tv σ2 H4 fun z H5 => ∃ kvs k b, y = .ref b ∧ H5 b = some (.tup (k.map kV)) ∧ H5 D = some (.dT kvs) ∧ kvs.length < sizeLine ∧ Pv (i + 1) (upd H5 D (.dT (putK kvs k z)))) (hd : ∀ H, Pv n H → Qd H) :
    ∃ W : Nat → Nat → Hp → Prop, (∃ m, W 0 m (upd H1 D (.dT []))) ∧ ∀ i m H, W i m H →
      (J.stop i H ∧ Qd H) ∨ (J.go i H ∧ ∃ Nx : Hp → Prop, (∀ H', Nx H' → ∃ m', m' < m ∧ W (i + 1) m' H') ∧ ∀ x H', J.yld i H x H' → g x (wipe σ vs) H' fun σ2 H2 => wipe σ2 vs = wipe σ vs ∧
        tk σ2 H2 fun y H4 => tv σ2 H4 fun z H5 => ∃ kvs k b, y = .ref b ∧ H5 b = some (.tup (k.map kV)) ∧ H5 D = some (.dT kvs) ∧ kvs.length < sizeLine ∧ Nx (upd H5 D (.dT (putK kvs k z)))) := by
  refine ⟨fun i m H => m = n - i ∧ i ≤ n ∧ Pv i H, ⟨n, by simp, Nat.zero_le _, h0⟩, ?_⟩
  rintro i m H ⟨rfl, hi, p⟩
  have q := hG i H hi p
  by_cases lt : i < n
  · exact .inr ⟨w.goes i H lt q, Pv (i + 1), fun H' p' => ⟨n - (i + 1), by omega, rfl, lt, p'⟩, fun x H' y => hs i x H H' lt p (w.yields i H x H' lt q y)⟩
  · obtain rfl : i = n := by omega
    exact .inl ⟨w.stops H q, hd H p⟩
/-- a block within a block: what is a cell or free to the outer one is so to the inner one -/
theorem BlkOk.rel {N : List Str} {sc scope : Scope} {own : List (Str × Nat)} {env : Env} (h : BlkOk N sc scope own) : BlkOk N (relabel sc env) scope own := by
  refine ⟨h.kind, h.uniq, h.ix, fun y hy e => ?_, h.own⟩
  have key : ∀ (l : List (Str × NameKind)) (x : Str), (l.lookup x = some .cell ∨ l.lookup x = some .free) → ((l.map fun (n, k) => if (k == .free && env.scope.kind == .function && env.kindOf n == some .cell) then (n, .cell) else (n, k)).lookup x = some .cell ∨
      (l.map fun (n, k) => if (k == .free && env.scope.kind == .function && env.kindOf n == some .cell) then (n, .cell) else (n, k)).lookup x = some .free) := by
    intro l
    induction l with
    | nil => intro x z; simp at z
    | cons p l ih =>
      obtain ⟨n, k⟩ := p
      intro x z
      rw [List.map_cons]
      by_cases c : (k == NameKind.free && env.scope.kind == .function && env.kindOf n == some .cell) = true
      · simp only [if_pos c]
        rw [List.lookup_cons] at z ⊢
        cases ex : x == n with
        | true => exact .inl rfl
        | false => rw [ex] at z; exact ih x z
      · simp only [if_neg c]
        rw [List.lookup_cons] at z ⊢
        cases ex : x == n with
        | true => rw [ex] at z; exact z
        | false => rw [ex] at z; exact ih x z
  exact key _ _ (h.free y hy e)
end Ms
namespace Ms
open PySem PySem.Spec PyProof.Rows L2
/-! ### rows, wherever they stand -/
/-- rows: tuples of ints, wherever they stand -/
inductive Rwq (K : PySem.W.Frag) (H : Hp) : List V → List (List Int) → Prop
  | nil : Rwq K H [] []
  | cons {a : Addr} {vs : List V} {r : List Int} {rs : List (List Int)} : SqT K H a (r.map V.int) → Rwq K H vs rs → Rwq K H (.ref a :: vs) (r :: rs)
section
variable {K : PySem.W.Frag} {H H' : Hp}
theorem Rwq.gen (k : ∀ a xs, SqT K H a xs → SqT K H' a xs) {vs : List V} {rs : List (List Int)} (p : Rwq K H vs rs) : Rwq K H' vs rs := by
  induction p with
  | nil => exact .nil
  | cons h _ ih => exact .cons (k _ _ h) ih
theorem Rwq.same (s : Same H H') {vs : List V} {rs : List (List Int)} (p : Rwq K H vs rs) : Rwq K H' vs rs := p.gen fun _ _ h => Same.seqT s h
theorem Rwq.snoc {vs : List V} {rs : List (List Int)} {a : Addr} {r : List Int} (p : Rwq K H vs rs) (h : SqT K H a (r.map V.int)) : Rwq K H (vs ++ [.ref a]) (rs ++ [r]) := by
  induction p with
  | nil => exact .cons h .nil
  | cons h' _ ih => exact .cons h' ih
theorem Rwq.len {vs : List V} {rs : List (List Int)} (p : Rwq K H vs rs) : vs.length = rs.length := by
  induction p with
  | nil => rfl
  | cons _ _ ih => simp [ih]
theorem Rwq.get {vs : List V} {rs : List (List Int)} (p : Rwq K H vs rs) : ∀ {i : Nat} {v : V}, vs[i]? = some v → ∃ a r, v = .ref a ∧ rs[i]? = some r ∧ SqT K H a (r.map V.int) := by
  induction p with
  | nil => intro i a h; simp at h
  | cons h' _ ih =>
    intro i b hb
    cases i with
    | zero => simp at hb; subst hb; exact ⟨_, _, rfl, rfl, h'⟩
    | succ i => exact ih (by simpa using hb)
/-- a list is written, the tuples stay -/
theorem SqT.lst {F : Addr} {u : List V} {o : HO} (h : H F = some (.lst u)) {a : Addr} {xs : List V} (q : SqT K H a xs) : SqT K (upd H F o) a xs := by
  rcases q with (q | ⟨o', q⟩) | q
  · exact .inl (.inl (by rw [upd_ne (ne_of q h (by intro z; cases z))]; exact q))
  · exact .inl (.inr ⟨o', by rw [upd_ne (ne_of q h (by intro z; cases z))]; exact q⟩)
  · exact .inr q
end
end Ms
namespace Ms
open PySem PySem.Spec PyProof.Rows L2
/-! ### what lies near a standing: one setting less, or one more -/
def absI (i : Int) : Int := if i < 0 then -i else i
def distL (a b : List Int) : Int := ((a.zip b).map fun p => absI (p.1 - p.2)).sum
def mvd (r : List Int) (i : Nat) (w : Int) : List Int := r.take i ++ [r.getD i 0 + w] ++ r.drop (i + 1)
def belowL (r : List Int) (n : Nat) : List (List Int) := ((List.range n).filter fun i => decide (0 < r.getD i 0)).map fun i => mvd r i (-1)
def aboveL (ms r : List Int) (n : Nat) : List (List Int) := ((List.range n).filter fun i => decide (r.getD i 0 < ms.getD i 0)).map fun i => mvd r i 1
def nearTo (ms r : List Int) : List (List Int) := belowL r r.length ++ (aboveL ms r ms.length).reverse
def gridM (ms : List Int) : List (List Int) := ms.foldl (fun rs m => widen rs (m + 1).toNat) [[]]
theorem grid_M (qs : List (Str × Int)) : grid qs = gridM (qs.map (·.2)) := by
  unfold grid gridM
  rw [List.foldl_map]
def allMosts : List (List Int) := [[1], [2], [3], [1, 1], [1, 2], [1, 3], [2, 1], [2, 2], [2, 3], [3, 1], [3, 2], [3, 3], [1, 1, 1], [1, 1, 2], [1, 1, 3], [1, 2, 1], [1, 2, 2], [1, 2, 3], [1, 3, 1], [1, 3, 2], [1, 3, 3], [2, 1, 1], [2, 1, 2], [2, 1, 3], [2, 2, 1], [2, 2, 2], [2, 2, 3], [2, 3, 1], [2, 3, 2], [2, 3, 3],
  [3, 1, 1], [3, 1, 2], [3, 1, 3], [3, 2, 1], [3, 2, 2], [3, 2, 3], [3, 3, 1], [3, 3, 2], [3, 3, 3]]
theorem most_cases {m : Int} (h : 1 ≤ m ∧ m ≤ 3) : m = 1 ∨ m = 2 ∨ m = 3 := by omega
theorem allMosts_mem {ms : List Int} (hl : 1 ≤ ms.length ∧ ms.length ≤ 3) (h : ∀ m ∈ ms, 1 ≤ m ∧ m ≤ 3) : ms ∈ allMosts := by
  match ms, hl, h with
  | [], hl, _ => simp at hl
  | [a], _, h =>
    rcases most_cases (h a (by simp)) with rfl | rfl | rfl <;> decide
  | [a, b], _, h =>
    rcases most_cases (h a (by simp)) with rfl | rfl | rfl <;> rcases most_cases (h b (by simp)) with rfl | rfl | rfl <;> decide
  | [a, b, c], _, h =>
    rcases most_cases (h a (by simp)) with rfl | rfl | rfl <;> rcases most_cases (h b (by simp)) with rfl | rfl | rfl <;> rcases most_cases (h c (by simp)) with rfl | rfl | rfl <;> decide
  | _ :: _ :: _ :: _ :: _, hl, _ => simp at hl
def nearOk (ms : List Int) : Bool := (gridM ms).all fun r => decide (((gridM ms).filter fun s => decide (distL r s = 1)) = nearTo ms r)
theorem near_all : (allMosts.all fun ms => decide (12 < (gridM ms).length) || nearOk ms) = true := by decide +kernel
theorem near_is {qs : List (Str × Int)} (hl : 1 ≤ qs.length ∧ qs.length ≤ 3) (h : ∀ q ∈ qs, 1 ≤ q.2 ∧ q.2 ≤ 3) (l12 : (grid qs).length ≤ 12) : ∀ r ∈ grid qs, ((grid qs).filter fun s => decide (distL r s = 1)) = nearTo (qs.map (·.2)) r := by
  intro r hr
  have hm : qs.map (·.2) ∈ allMosts := allMosts_mem (by rw [List.length_map]; exact hl) fun m hm => by
    obtain ⟨q, hq, rfl⟩ := List.mem_map.mp hm
    exact h q hq
  have k := List.all_eq_true.mp near_all _ hm
  rw [grid_M] at l12 hr ⊢
  rw [Bool.or_eq_true] at k
  rcases k with k | k
  · have := of_decide_eq_true k
    omega
  · exact of_decide_eq_true (List.all_eq_true.mp k r hr)
/-! ### the near pairs, in their order -/
def nearPs (ms : List Int) (us : List (List Int)) : List (List Int × List Int) := us.flatMap fun r => (nearTo ms r).map fun s => (r, s)
def nearDo (r : List Int) (rs : List (List Int)) : List PyData := (rs.filter fun s => decide (distL r s = 1)).map (pairD r)
def nearDs (us rs : List (List Int)) : List PyData := us.flatMap fun r => nearDo r rs
theorem nearDs_le : ∀ (us rs : List (List Int)), (nearDs us rs).length ≤ us.length * rs.length
  | [], rs => by simp [nearDs]
  | r :: us, rs => by
    have h1 : (nearDo r rs).length ≤ rs.length := by
      unfold nearDo
      rw [List.length_map]
      exact List.length_filter_le _ _
    have h2 := nearDs_le us rs
    show (nearDo r rs ++ nearDs us rs).length ≤ (us.length + 1) * rs.length
    rw [List.length_append, Nat.add_mul]
    omega
theorem nearPs_D {qs : List (Str × Int)} (hl : 1 ≤ qs.length ∧ qs.length ≤ 3) (h : ∀ q ∈ qs, 1 ≤ q.2 ∧ q.2 ≤ 3) (l12 : (grid qs).length ≤ 12) : (nearPs (qs.map (·.2)) (grid qs)).map (fun q => pairD q.1 q.2) = nearDs (grid qs) (grid qs) := by
  have key : ∀ us : List (List Int), (∀ r ∈ us, r ∈ grid qs) → (nearPs (qs.map (·.2)) us).map (fun q => pairD q.1 q.2) = nearDs us (grid qs) := by
    intro us
    induction us with
    | nil => intro _; rfl
    | cons r us ih =>
      intro hs
      show (((nearTo (qs.map (·.2)) r).map fun s => (r, s)) ++ nearPs (qs.map (·.2)) us).map _ = nearDo r (grid qs) ++ nearDs us (grid qs)
      rw [List.map_append, ih fun x hx => hs x (List.mem_cons_of_mem _ hx)]
      congr 1
      unfold nearDo
      rw [near_is hl h l12 r (hs r List.mem_cons_self), List.map_map]
      rfl
  exact key _ fun r hr => hr
theorem mvd_len {r : List Int} {i : Nat} {w : Int} (h : i < r.length) : (mvd r i w).length = r.length := by
  unfold mvd
  rw [List.length_append, List.length_append, List.length_take, List.length_drop]
  simp
  omega
theorem belowL_snoc (r : List Int) (n : Nat) : belowL r (n + 1) = belowL r n ++ (if 0 < r.getD n 0 then [mvd r n (-1)] else []) := by
  unfold belowL
  rw [List.range_succ, List.filter_append, List.map_append]
  congr 1
  by_cases c : 0 < r.getD n 0
  · rw [if_pos c]
    show List.map _ (List.filter _ [n]) = _
    rw [List.filter_cons, if_pos (by simpa using c)]; rfl
  · rw [if_neg c]
    show List.map _ (List.filter _ [n]) = _
    rw [List.filter_cons, if_neg (by simpa using c)]; rfl
theorem aboveL_snoc (ms r : List Int) (n : Nat) : aboveL ms r (n + 1) = aboveL ms r n ++ (if r.getD n 0 < ms.getD n 0 then [mvd r n 1] else []) := by
  unfold aboveL
  rw [List.range_succ, List.filter_append, List.map_append]
  congr 1
  by_cases c : r.getD n 0 < ms.getD n 0
  · rw [if_pos c]
    show List.map _ (List.filter _ [n]) = _
    rw [List.filter_cons, if_pos (by simpa using c)]; rfl
  · rw [if_neg c]
    show List.map _ (List.filter _ [n]) = _
    rw [List.filter_cons, if_neg (by simpa using c)]; rfl
theorem belowL_le (r : List Int) (n : Nat) : (belowL r n).length ≤ n := by
  unfold belowL
  rw [List.length_map]
  exact Nat.le_trans (List.length_filter_le _ _) (Nat.le_of_eq List.length_range)
theorem aboveL_le (ms r : List Int) (n : Nat) : (aboveL ms r n).length ≤ n := by
  unfold aboveL
  rw [List.length_map]
  exact Nat.le_trans (List.length_filter_le _ _) (Nat.le_of_eq List.length_range)
theorem nearTo_le (ms r : List Int) : (nearTo ms r).length ≤ r.length + ms.length := by
  unfold nearTo
  have h1 := belowL_le r r.length
  have h2 := aboveL_le ms r ms.length
  rw [List.length_append, List.length_reverse]
  omega
end Ms
namespace Ms
open PySem PySem.Spec PyProof.Rows L2
/-! ### moved, near_to, near_pairs of the package -/
section
variable {P : Program} {w : World} {K : PySem.W.Frag} {mg : Str → Option Value} {base : Heap} {fM fT : Addr}
abbrev NMv : List Str := ["standing", "at", "way"]
theorem scMv : FnScope NMv ["standing", "at", "way"] (defScope sMoved) := ⟨rfl, rfl, rfl, by decide +kernel, rfl, by decide +kernel, by decide +kernel⟩
def spMoved (K : PySem.W.Frag) : Sp := fun vs H Q _ => ∃ (a : Addr) (r : List Int) (i : Nat) (v : Int), vs = [.ref a, .int (i : Nat), .int v] ∧ SqT K H a (r.map V.int) ∧ i < r.length ∧ r.length ≤ 900 ∧ ∀ p H', Same H H' → SqT K H' p ((mvd r i v).map V.int) → Q (.ref p) H'
theorem ok_moved {f : Addr} {fd : FuncData} (F : Fun K "moved" "moved" sMoved f fd) : FnOk P w K mg base CX0 1 f fd ["standing", "at", "way"] (spMoved K) := by
  refine F.ok scMv (fun vs H Q E h => ?_) (fun cdv A outer s H vs Q E hr h => ?_)
  · obtain ⟨a, r, i, v, rfl, _⟩ := h
    rfl
  obtain ⟨a, r, i, v, rfl, ha, hi, l9, q⟩ := h
  have lr : (r.map V.int).length = r.length := List.length_map ..
  refine ⟨_, pss_one (ps_ret (pe_op op_catA (pe_op op_catA (pe_slice sl_tupA (pv 0) po_none (po_some (pv 1))) (pe_tup (pa_cons (pe_op op_add (pe_ix (show IxR _ (rIxT K) from ix_tup) (pv 0) (pv 1) (fun _ _ => rfl)) (pv 2)) pa_nil)))
    (pe_slice sl_tupA (pv 0) (po_some (pe_op op_add (pv 1) pe_int)) po_none))), ?_⟩
  refine ⟨_, rfl, noPart ⟨_, rfl, _, rfl, slA_any ha fun p1 H1 s1 h1 => ?_⟩⟩
  have at_ : atI (r.map V.int) ((i : Nat) : Int) = some (.int (r.getD i 0)) := atI_nat (by rw [List.getElem?_map, List.getD_eq_getElem?_getD, List.getElem?_eq_getElem hi]; rfl)
  refine ⟨_, rfl, _, rfl, a, _, _, _, rfl, rfl, Same.seqT s1 ha, at_, _, rfl, _, _, rfl, rfl, (by show 1 ≤ sizeLine; decide), fun p2 hp2 => ?_⟩
  have s2 : Same H1 (upd H1 p2 (.tup [.int (r.getD i 0 + v)])) := Same.upd hp2
  rw [cut_to (by omega)] at h1
  refine catA_any (Same.seqT s2 h1) (.inl (.inl upd_same)) (by rw [List.length_take, sizeLine_eq]; simp; omega) fun p3 H3 s3 h3 => ?_
  have s13 := s1.trans (s2.trans s3)
  refine ⟨_, rfl, ⟨_, rfl, _, _, rfl, rfl, _, rfl, noPart (slA_any (Same.seqT s13 ha) fun p4 H4 s4 h4 => ?_)⟩⟩
  rw [cut_from1 (by omega)] at h4
  refine catA_any (Same.seqT s4 h3) h4 (by rw [List.length_append, List.length_take, List.length_drop, sizeLine_eq]; simp; omega) fun p5 H5 s5 h5 => ?_
  refine q p5 H5 (s13.trans (s4.trans s5)) ?_
  have e : (mvd r i v).map V.int = (r.map V.int).take i ++ [V.int (r.getD i 0 + v)] ++ (r.map V.int).drop (i + 1) := by
    unfold mvd
    rw [List.map_append, List.map_append, List.map_take, List.map_drop]; rfl
  rw [e]
  exact h5
abbrev NNt : List Str := ["settings", "standing", "below", "above", "at", "value", "name", "most"]
theorem scNt : FnScope NNt ["settings", "standing"] (defScope sNearTo) := ⟨rfl, rfl, rfl, by decide +kernel, rfl, by decide +kernel, by decide +kernel⟩
def spNearTo (K : PySem.W.Frag) : Sp := fun vs H Q _ => ∃ (a b : Addr) (xs : List V) (qs : List (Str × Int)) (r : List Int), vs = [.ref a, .ref b] ∧ SqT K H a xs ∧ PrTs K H xs qs ∧ SqT K H b (r.map V.int) ∧ r.length = qs.length ∧ qs.length ≤ 400 ∧
  ∀ D ys H', H D = none → Same H H' → H' D = some (.lst ys) → Rwq K H' ys (nearTo (qs.map (·.2)) r) → Q (.ref D) H'
theorem Rwq.rev {H : Hp} {vs : List V} {rs : List (List Int)} (p : Rwq K H vs rs) : Rwq K H vs.reverse rs.reverse := by
  induction p with
  | nil => exact .nil
  | cons h _ ih => rw [List.reverse_cons, List.reverse_cons]; exact ih.snoc h
theorem Rwq.app {H : Hp} {vs vs' : List V} {rs rs' : List (List Int)} (p : Rwq K H vs rs) (q : Rwq K H vs' rs') : Rwq K H (vs ++ vs') (rs ++ rs') := by
  induction p with
  | nil => exact q
  | cons h _ ih => exact .cons h ih
theorem ok_nearTo {f : Addr} {fd fdM : FuncData} (F : Fun K "near_to" "near_to" sNearTo f fd) (hen : mg "enumerate" = none) (gM : mg "moved" = some (.ref fM)) (FM : Fun K "moved" "moved" sMoved fM fdM) (bM : Binds K fdM ["standing", "at", "way"] []) : FnOk P w K mg base CX0 2 f fd ["settings", "standing"] (spNearTo K) := by
  have GM : FnOk P w K mg base CX0 1 fM fdM ["standing", "at", "way"] (spMoved K) := ok_moved FM
  refine F.ok scNt (fun vs H Q E h => ?_) (fun cdv A outer s H vs Q E hr h => ?_)
  · obtain ⟨a, b, xs, qs, r, rfl, _⟩ := h
    rfl
  obtain ⟨a, b, xs, qs, r, rfl, ha, pr, hb, lr, l4, q⟩ := h
  have lx := pr.len
  refine ⟨_, pss_cons (ps_setLc (i := 2) (own := [("at", 4), ("value", 5)]) (g := gTup K 2 (gCons (gName 4) (gCons (gName 5) gNil))) (by rfl) scNt.nd rfl rfl (sw_true rfl rfl rfl (by decide +kernel)) (pi_et (by rfl) hen (pa_cons (pv 1) pa_nil)) (blkOk_by (own := [("at", 4), ("value", 5)]) (N := NNt) (sc := defScope sNearTo) (by decide +kernel))
      (fun _ _ _ _ _ => pg_tup rfl (pgs_cons (pg_name (i := 4) scNt.nd rfl (by first | exact Or.inl rfl | exact Or.inr rfl)) (pgs_cons (pg_name (i := 5) scNt.nd rfl (by first | exact Or.inl rfl | exact Or.inr rfl)) pgs_nil)))
      (fun _ _ _ _ _ => pts_one (pt_cmpR op_gt (pv 5) pe_int (nomark _))) (fun _ _ _ _ _ => pe_call GM hr (by rfl) gM FM.kp bM .nil pass0 (pa_cons (pv 1) (pa_cons (pv 4) (pa_cons (pe_un un_neg pe_int) pa_nil)))))
    (pss_cons (ps_setLc (i := 3) (own := [("at", 4), ("name", 6), ("most", 7)]) (g := gTup K 2 (gCons (gName 4) (gCons (gTup K 2 (gCons (gName 6) (gCons (gName 7) gNil))) gNil))) (by rfl) scNt.nd rfl rfl (sw_true rfl rfl rfl (by decide +kernel)) (pi_et (by rfl) hen (pa_cons (pv 0) pa_nil)) (blkOk_by (own := [("at", 4), ("name", 6), ("most", 7)]) (N := NNt) (sc := defScope sNearTo) (by decide +kernel))
      (fun _ _ _ _ _ => pg_tup rfl (pgs_cons (pg_name (i := 4) scNt.nd rfl (by first | exact Or.inl rfl | exact Or.inr rfl)) (pgs_cons (pg_tup rfl (pgs_cons (pg_name (i := 6) scNt.nd rfl (by first | exact Or.inl rfl | exact Or.inr rfl)) (pgs_cons (pg_name (i := 7) scNt.nd rfl (by first | exact Or.inl rfl | exact Or.inr rfl)) pgs_nil))) pgs_nil)))
      (fun _ _ _ _ _ => pts_one (pt_cmpR op_lt (pe_ix (show IxR _ (rIxT K) from ix_tup) (pv 1) (pv 4) (fun _ _ => rfl)) (pv 7) (nomark _))) (fun _ _ _ _ _ => pe_call GM hr (by rfl) gM FM.kp bM .nil pass0 (pa_cons (pv 1) (pa_cons (pv 4) (pa_cons pe_int pa_nil)))))
    (pss_one (ps_ret (pe_op op_cat (pv 2) (pe_revL (pv 3)))))), ?_⟩
  have lrm : (r.map V.int).length = r.length := List.length_map ..
  refine ⟨_, rfl, b, _, rfl, hb, fun D hD => ?_⟩
  refine lc_it (walk_et (xs := r.map V.int)) (fun i H3 => Same H H3 ∧ ∃ ys, H3 D = some (.lst ys) ∧ Rwq K H3 ys (belowL r i)) ⟨Same.upd hD, [], upd_same, .nil⟩ (fun i H3 _ ⟨s3, _⟩ => Same.seqT s3 hb) ?_ ?_
  · rintro i x H3 H4 hi ⟨s3, ys, g3, rq⟩ ⟨TT, x1, x2, rfl, hT, rfl, e1, e2⟩
    have ex1 : x1 = .int (i : Nat) := (Option.some.inj e1).symm
    subst ex1
    have hi' : i < r.length := by omega
    have e2 : (r.map V.int)[i]? = some x2 := e2
    rw [List.getElem?_map, List.getElem?_eq_getElem hi'] at e2
    have ex2 : x2 = .int (r.getD i 0) := by
      rw [← Option.some.inj e2, List.getD_eq_getElem?_getD, List.getElem?_eq_getElem hi']; rfl
    subst ex2
    have sT : Same H3 (upd H3 TT (.tup [.int (i : Nat), .int (r.getD i 0)])) := Same.upd hT
    have gT : (upd H3 TT (.tup [.int (i : Nat), .int (r.getD i 0)])) TT = some (.tup [.int (i : Nat), .int (r.getD i 0)]) := upd_same
    generalize upd H3 TT (.tup [.int (i : Nat), .int (r.getD i 0)]) = H4 at sT gT ⊢
    have s4 := s3.trans sT
    refine ⟨TT, _, rfl, .inl (.inl gT), rfl, _, _, rfl, _, _, rfl, rfl, rfl, ?_⟩
    have sn := belowL_snoc r i
    refine ⟨_, rfl, _, _, rfl, rfl, _, rfl, ?_⟩
    by_cases c : 0 < r.getD i 0
    · rw [if_pos c] at sn
      refine ifT (decide_eq_true c) ⟨_, rfl, _, rfl, 1, rfl, b, r, i, -1, rfl, Same.seqT s4 hb, hi', by omega, fun p H5 s5 h5 => ?_⟩
      have g5 := s5 _ _ (sT _ _ g3)
      have lb := belowL_le r i
      have ly := rq.len
      refine ⟨_, g5, small1000 (by omega), fun c' o hc' => ?_, _, upd_same, ?_⟩
      · rw [upd_ne (ne_of_none hc' hD)]; exact s5 _ _ (s4 c' o hc')
      · rw [sn]
        exact ((rq.same (sT.trans s5)).gen fun _ _ h => SqT.lst g5 h).snoc (SqT.lst g5 h5)
    · rw [if_neg c, List.append_nil] at sn
      refine ifF (decide_eq_false c) ⟨s4, ys, sT _ _ g3, ?_⟩
      rw [sn]
      exact rq.same sT
  · rintro H3 ⟨s3, ys, g3, rq⟩
    rw [lrm] at rq
    refine ⟨_, rfl, a, _, rfl, Same.seqT s3 ha, fun D2 hD2 => ?_⟩
    refine lc_it (walk_et (xs := xs)) (fun i H4 => Same H3 H4 ∧ ∃ zs, H4 D2 = some (.lst zs) ∧ Rwq K H4 zs (aboveL (qs.map (·.2)) r i)) ⟨Same.upd hD2, [], upd_same, .nil⟩ (fun i H4 _ ⟨s4, _⟩ => Same.seqT (s3.trans s4) ha) ?_ ?_
    · rintro i x H4 H5 hi ⟨s4, zs, g4, rq4⟩ ⟨TT, x1, x2, rfl, hT, rfl, e1, e2⟩
      have ex1 : x1 = .int (i : Nat) := (Option.some.inj e1).symm
      subst ex1
      obtain ⟨qq, hqq, c, rfl, hc⟩ := pr.get e2
      have hi' : i < qs.length := (List.getElem?_eq_some_iff.mp hqq).1
      have s04 := s3.trans s4
      have sT : Same H4 (upd H4 TT (.tup [.int (i : Nat), .ref c])) := Same.upd hT
      have gT : (upd H4 TT (.tup [.int (i : Nat), .ref c])) TT = some (.tup [.int (i : Nat), .ref c]) := upd_same
      generalize upd H4 TT (.tup [.int (i : Nat), .ref c]) = H5 at sT gT ⊢
      have s05 := s04.trans sT
      have em : (qs.map (·.2)).getD i 0 = qq.2 := by rw [List.getD_eq_getElem?_getD, List.getElem?_map, hqq]; rfl
      have sn := aboveL_snoc (qs.map (·.2)) r i
      rw [em] at sn
      have at_ : atI (r.map V.int) ((i : Nat) : Int) = some (.int (r.getD i 0)) := atI_nat (by rw [List.getElem?_map, List.getD_eq_getElem?_getD, List.getElem?_eq_getElem (by omega)]; rfl)
      refine ⟨TT, _, rfl, .inl (.inl gT), rfl, _, _, rfl, _, _, rfl, c, _, rfl, Same.seqT s05 hc, rfl, _, _, rfl, _, _, rfl, rfl, rfl, rfl, ?_⟩
      refine ⟨_, rfl, _, rfl, b, _, _, _, rfl, rfl, Same.seqT s05 hb, at_, _, rfl, _, _, rfl, rfl, _, rfl, ?_⟩
      by_cases c1 : r.getD i 0 < qq.2
      · rw [if_pos c1] at sn
        refine ifT (decide_eq_true c1) ⟨_, rfl, _, rfl, b, r, i, 1, rfl, Same.seqT s05 hb, by omega, by omega, fun p H6 s6 h6 => ?_⟩
        have g6 := s6 _ _ (sT _ _ g4)
        have lb := aboveL_le (qs.map (·.2)) r i
        have ly := rq4.len
        refine ⟨_, g6, small1000 (by omega), fun c' o hc' => ?_, _, upd_same, ?_⟩
        · rw [upd_ne (ne_of_none hc' hD2)]; exact s6 _ _ (sT _ _ (s4 c' o hc'))
        · rw [sn]
          exact ((rq4.same (sT.trans s6)).gen fun _ _ h => SqT.lst g6 h).snoc (SqT.lst g6 h6)
      · rw [if_neg c1, List.append_nil] at sn
        refine ifF (decide_eq_false c1) ⟨s4.trans sT, zs, sT _ _ g4, ?_⟩
        rw [sn]
        exact rq4.same sT
    · rintro H4 ⟨s4, zs, g4, rq4⟩
      have l1 : zs.length ≤ 400 := by
        have := aboveL_le (qs.map (·.2)) r xs.length
        have := rq4.len
        omega
      have l2 : ys.length ≤ 400 := by
        have := belowL_le r r.length
        have := rq.len
        omega
      refine ⟨_, rfl, _, rfl, D2, zs, rfl, SqL.of g4, fun p hp => ?_⟩
      have s5 : Same H4 (upd H4 p (.lst zs.reverse)) := Same.upd hp
      refine ⟨D, p, ys, zs.reverse, rfl, rfl, s5 _ _ (s4 _ _ g3), upd_same, by rw [List.length_reverse, sizeLine_eq]; omega, fun p2 hp2 => ?_⟩
      have s6 : Same (upd H4 p (.lst zs.reverse)) (upd (upd H4 p (.lst zs.reverse)) p2 (.lst (ys ++ zs.reverse))) := Same.upd hp2
      have s06 := s3.trans (s4.trans (s5.trans s6))
      refine q p2 _ _ (Same.free (s3.trans (s4.trans s5)) hp2) s06 upd_same ?_
      have lm : xs.length = (qs.map (·.2)).length := by rw [List.length_map, lx]
      rw [lm] at rq4
      exact (rq.same (s4.trans (s5.trans s6))).app ((rq4.same (s5.trans s6)).rev)
end
end Ms
namespace Ms
open PySem PySem.Spec PyProof.Rows L2
/-! ### near_pairs of the package -/
section
variable {P : Program} {w : World} {K : PySem.W.Frag} {mg : Str → Option Value} {base : Heap} {fM fT : Addr}
abbrev NNe : List Str := ["settings", "grid", "first", "second"]
theorem scNe : FnScope NNe ["settings", "grid"] (defScope sNear) := ⟨rfl, rfl, rfl, by decide +kernel, rfl, by decide +kernel, by decide +kernel⟩
def spNear (K : PySem.W.Frag) : Sp := fun vs H Q _ => ∃ (a p : Addr) (xs : List V) (qs : List (Str × Int)) (as : List Addr) (rs : List (List Int)), vs = [.ref a, .ref p] ∧ SqT K H a xs ∧ PrTs K H xs qs ∧ qs.length ≤ 30 ∧ SqT K H p (as.map V.ref) ∧ Rws H as rs ∧ (∀ r ∈ rs, r.length = qs.length) ∧ rs.length ≤ 16 ∧
  ∀ t ys H', H t = none → Same H H' → H' t = some (.tup ys) → Prq K H' ys (nearPs (qs.map (·.2)) rs) → Q (.ref t) H'
theorem SqT.upL {H : Hp} {D : Addr} {u : List V} {o : HO} (h : H D = some (.lst u)) {a : Addr} {xs : List V} (q : SqT K H a xs) : SqT K (upd H D o) a xs := SqT.lst h q
theorem small1000' {n : Nat} (h : n ≤ 1000) : n < sizeLine := small1000 h
theorem nearPs_le : ∀ (ms : List Int) (us : List (List Int)), (∀ r ∈ us, r.length + ms.length ≤ 60) → us.length ≤ 16 → (nearPs ms us).length ≤ us.length * 60
  | ms, [], _, _ => by simp [nearPs]
  | ms, r :: us, h, l => by
    have h1 := nearTo_le ms r
    have h2 := h r List.mem_cons_self
    have h3 := nearPs_le ms us (fun x hx => h x (List.mem_cons_of_mem _ hx)) (by simp at l; omega)
    show (((nearTo ms r).map fun s => (r, s)) ++ nearPs ms us).length ≤ (us.length + 1) * 60
    rw [List.length_append, List.length_map, Nat.add_mul]
    omega
theorem ok_near {f : Addr} {fd fdT fdM : FuncData} (F : Fun K "near_pairs" "near_pairs" sNear f fd) (htup : mg "tuple" = none) (hen : mg "enumerate" = none) (gT : mg "near_to" = some (.ref fT)) (FT : Fun K "near_to" "near_to" sNearTo fT fdT) (bT : Binds K fdT ["settings", "standing"] [])
    (gM : mg "moved" = some (.ref fM)) (FM : Fun K "moved" "moved" sMoved fM fdM) (bM : Binds K fdM ["standing", "at", "way"] []) : FnOk P w K mg base CX0 3 f fd ["settings", "grid"] (spNear K) := by
  have GT : FnOk P w K mg base CX0 2 fT fdT ["settings", "standing"] (spNearTo K) := ok_nearTo FT hen gM FM bM
  refine F.ok scNe (fun vs H Q E h => ?_) (fun cdv A outer s H vs Q E hr h => ?_)
  · obtain ⟨a, p, xs, qs, as, rs, rfl, _⟩ := h
    rfl
  obtain ⟨a, p, xs, qs, as, rs, rfl, ha, pr, l3, hp, rw1, rk, l16, q⟩ := h
  have ll := rw1.length
  refine ⟨_, pss_one (ps_ret (pe_callTy call_tuple_of (by rfl) htup (by decide +kernel) (pa_cons
    (pe_lc2 (own := [("first", 2), ("second", 3)]) (vs1 := [3]) (g := gName 2) (g1 := gName 3) (tt := tYes) (wi1 := iList K (tCall (spNearTo K) [] E (tCons (tVar 0) (tCons (tVar 2) tNil)))) (by rfl) scNe.nd (pi_tup (pv 1)) (blkOk_by (own := [("first", 2), ("second", 3)]) (N := NNe) (sc := defScope sNear) (by decide +kernel)) (by decide)
      (fun _ _ _ _ _ => pg_name (i := 2) scNe.nd rfl (by first | exact Or.inl rfl | exact Or.inr rfl)) (fun _ _ _ _ _ => pts_nil) (fun _ _ _ _ _ => pi_list (pe_call GT hr (by rfl) gT FT.kp bT .nil pass0 (pa_cons (pv 0) (pa_cons (pv 2) pa_nil))))
      (fun _ _ _ _ _ => pg_name (i := 3) scNe.nd rfl (by first | exact Or.inl rfl | exact Or.inr rfl)) (fun _ _ _ _ _ => pts_nil)
      (fun _ _ _ _ _ => pe_tup (pa_cons (pv 2) (pa_cons (pv 3) pa_nil)))) pa_nil))), ?_⟩
  have small : ∀ i j r, rs[i]? = some r → (nearPs (qs.map (·.2)) (rs.take i) ++ ((nearTo (qs.map (·.2)) r).take j).map fun s => (r, s)).length ≤ 1000 := fun i j r hr1 => by
    have h1 := nearPs_le (qs.map (·.2)) (rs.take i) (fun x hx => by rw [rk x (List.mem_of_mem_take hx), List.length_map]; omega) (by rw [List.length_take]; omega)
    have h2 := nearTo_le (qs.map (·.2)) r
    rw [rk r (List.mem_of_getElem? hr1), List.length_map] at h2
    rw [List.length_take] at h1
    rw [List.length_append, List.length_map, List.length_take]
    have h3 : min i rs.length * 60 ≤ 15 * 60 := Nat.mul_le_mul (by have := (List.getElem?_eq_some_iff.mp hr1).1; omega) (Nat.le_refl _)
    omega
  refine ⟨_, rfl, p, rfl, ⟨_, hp⟩, fun D hD => ?_⟩
  refine lc2_it (walk_tup (xs := as.map V.ref)) (fun i H1 => Same H H1 ∧ ∃ ys, H1 D = some (.lst ys) ∧ Prq K H1 ys (nearPs (qs.map (·.2)) (rs.take i))) ⟨Same.upd hD, [], upd_same, .nil⟩ (fun i H1 _ ⟨s1, _⟩ => Same.seqT s1 hp) ?_ ?_
  · rintro i x H1 H2 hi ⟨s1, ys, g1, pb⟩ ⟨eH, hx⟩
    have eH := eH.symm
    subst eH
    have hx : (as.map V.ref)[i]? = some x := hx
    rw [List.getElem?_map] at hx
    obtain ⟨b, hb, rfl⟩ := Option.map_eq_some_iff.mp hx
    obtain ⟨r, hr1, hb1⟩ := rw1.get hb
    have tk : nearPs (qs.map (·.2)) (rs.take (i + 1)) = nearPs (qs.map (·.2)) (rs.take i) ++ (nearTo (qs.map (·.2)) r).map fun s => (r, s) := by
      rw [List.take_succ, hr1]
      show List.flatMap _ (_ ++ [_]) = _
      rw [List.flatMap_append]
      show _ ++ (((nearTo (qs.map (·.2)) r).map fun s => (r, s)) ++ []) = _
      rw [List.append_nil]; rfl
    refine ⟨rfl, tyes ?_⟩
    refine ⟨_, rfl, _, rfl, a, b, xs, qs, r, rfl, Same.seqT s1 ha, pr.same s1, .inl (.inl (s1 _ _ hb1)), rk r (List.mem_of_getElem? hr1), by omega, fun L zs H3 hL s3 g3 rq => ?_⟩
    have lz := rq.len
    refine ⟨L, rfl, ⟨_, SqL.of g3⟩, ?_⟩
    have gL : ∀ {H' : Hp}, Same H H' → H' L = some (.lst zs) → True := fun _ _ => trivial
    have nL : L ≠ D := fun z => by rw [z, g1] at hL; cases hL
    refine lc_in (walk_list (xs := zs)) (fun j H6 => (∀ c o, c ≠ D → H3 c = some o → H6 c = some o) ∧ Same H H6 ∧ ∃ ys, H6 D = some (.lst ys) ∧ Prq K H6 ys (nearPs (qs.map (·.2)) (rs.take i) ++ ((nearTo (qs.map (·.2)) r).take j).map fun s => (r, s)))
      ⟨fun _ _ _ h => h, s1.trans s3, ys, s3 _ _ g1, by rw [List.take_zero, List.map_nil, List.append_nil]; exact pb.same s3⟩ (fun j H6 _ ⟨k6, _⟩ => SqL.of (k6 L _ nL g3)) ?_ ?_
    · rintro j y H6 H7 hj ⟨k6, s6, us, g6, pb6⟩ ⟨eH, hy⟩
      have eH := eH.symm
      subst eH
      have hy : zs[j]? = some y := hy
      obtain ⟨c, r2, rfl, hr2, hc⟩ := rq.get hy
      have hcD : SqT K H6 c (r2.map V.int) := by
        rcases hc with (h | ⟨o, h⟩) | h
        · exact .inl (.inl (k6 c _ (fun z => by rw [z, s3 _ _ g1] at h; cases h) h))
        · exact .inl (.inr ⟨o, k6 c _ (fun z => by
            have h' : H3 c = some (.frz o (.tup (r2.map V.int))) := h
            rw [z, s3 _ _ g1] at h'; cases h') h⟩)
        · exact .inr h
      have tk2 : ((nearTo (qs.map (·.2)) r).take (j + 1)).map (fun s => (r, s)) = ((nearTo (qs.map (·.2)) r).take j).map (fun s => (r, s)) ++ [(r, r2)] := by
        rw [List.take_succ, hr2, List.map_append]; rfl
      refine ⟨rfl, tyes ⟨_, rfl, _, rfl, (by show 2 ≤ sizeLine; decide), fun t ht => ?_⟩⟩
      have sT : Same H6 (upd H6 t (.tup [.ref b, .ref c])) := Same.upd ht
      have gT' : (upd H6 t (.tup [.ref b, .ref c])) t = some (.tup [.ref b, .ref c]) := upd_same
      generalize upd H6 t (.tup [.ref b, .ref c]) = H7 at sT gT' ⊢
      have g7 := sT _ _ g6
      have ly := pb6.len
      have sm := small i j r hr1
      refine ⟨_, g7, small1000' (by omega), fun c' o nc h => ?_, fun c' o h => ?_, _, upd_same, ?_⟩
      · rw [upd_ne nc]; exact sT _ _ (k6 c' o nc h)
      · rw [upd_ne (ne_of_none h hD)]; exact sT _ _ (s6 c' o h)
      · rw [tk2, ← List.append_assoc]
        exact ((pb6.same sT).gen fun _ _ h => SqT.lst g7 h).snoc (SqT.lst g7 (.inl (.inl gT'))) (SqT.lst g7 (.inl (.inl (sT _ _ (s6 _ _ hb1))))) (SqT.lst g7 (Same.seqT sT hcD))
    · rintro H6 ⟨k6, s6, us, g6, pb6⟩
      rw [lz, List.take_length, ← tk] at pb6
      exact ⟨s6, us, g6, pb6⟩
  · rintro H1 ⟨s1, ys, g1, pb⟩
    rw [List.take_of_length_le (by rw [List.length_map]; omega)] at pb
    refine ⟨D, _, rfl, .inl ⟨SqL.of g1, fun t ht => ?_⟩⟩
    exact q t ys _ (Same.free s1 ht) (s1.trans (Same.upd ht)) upd_same (pb.same (Same.upd ht))
end
end Ms
namespace Ms
open PySem PySem.Spec PyProof.Rows L2
def stOk (qs : List (Str × Int)) (st : List Int) : Prop := st.length = qs.length ∧ ∀ (i : Nat) (q : Str × Int) (v : Int), qs[i]? = some q → st[i]? = some v → 0 ≤ v ∧ v ≤ q.2
theorem stand_st {qs : List (Str × Int)} {d : PyData} (h : standD qs d = true) : ∃ st : List Int, d = .tuple (st.map .int) ∧ stOk qs st := by
  cases d with
  | tuple ds =>
    have h' : (decide (ds.length = qs.length) && (ds.zip qs).all fun p => isWhole p.1 0 p.2.2) = true := h
    rw [Bool.and_eq_true] at h'
    obtain ⟨h1, h2⟩ := h'
    have h1 := of_decide_eq_true h1
    rw [List.all_eq_true] at h2
    have key : ∀ (ds : List PyData) (qs : List (Str × Int)), ds.length = qs.length → (∀ p ∈ ds.zip qs, isWhole p.1 0 p.2.2 = true) → ∃ st : List Int, ds = st.map .int ∧ stOk qs st := by
      intro ds
      induction ds with
      | nil =>
        intro qs hl _
        refine ⟨[], rfl, by simpa using hl, fun i q v h1 h2 => by simp at h2⟩
      | cons d ds ih =>
        intro qs hl hp
        cases qs with
        | nil => simp at hl
        | cons q qs =>
          have hd : isWhole d 0 q.2 = true := hp (d, q) (by simp)
          obtain ⟨st, e, so⟩ := ih qs (by simpa using hl) fun p hp' => hp p (by rw [List.zip_cons_cons]; exact List.mem_cons_of_mem _ hp')
          cases d with
          | int j =>
            have hj : (decide (0 ≤ j) && decide (j ≤ q.2)) = true := hd
            rw [Bool.and_eq_true, decide_eq_true_eq, decide_eq_true_eq] at hj
            refine ⟨j :: st, by rw [e]; rfl, by simp [so.1], fun i q' v h1 h2 => ?_⟩
            cases i with
            | zero =>
              cases h1
              cases h2
              exact hj
            | succ i => exact so.2 i q' v (by simpa using h1) (by simpa using h2)
          | _ => cases hd
    obtain ⟨st, e, so⟩ := key ds qs h1 h2
    exact ⟨st, by rw [e], so⟩
  | _ => cases h
theorem st_stand {qs : List (Str × Int)} {st : List Int} (h : stOk qs st) : standD qs (.tuple (st.map .int)) = true := by
  show (decide ((st.map PyData.int).length = qs.length) && ((st.map PyData.int).zip qs).all fun p => isWhole p.1 0 p.2.2) = true
  rw [List.length_map, decide_eq_true h.1, Bool.true_and, List.all_eq_true]
  intro p hp
  obtain ⟨i, hi⟩ := List.mem_iff_getElem?.mp hp
  rw [List.getElem?_zip_eq_some, List.getElem?_map] at hi
  obtain ⟨h1, h2⟩ := hi
  cases e : st[i]? with
  | none => rw [e] at h1; cases h1
  | some v =>
    rw [e] at h1
    have e1 : p.1 = .int v := (Option.some.inj h1).symm
    obtain ⟨a, b⟩ := h.2 i p.2 v h2 e
    rw [e1]
    show (decide (0 ≤ v) && decide (v ≤ p.2.2)) = true
    rw [decide_eq_true a, decide_eq_true b]; rfl
/-! ### the standings are those rows -/
theorem mem_fold : ∀ (qs : List (Str × Int)) (rs : List (List Int)) (r : List Int), (∀ q ∈ qs, 0 ≤ q.2) → (r ∈ qs.foldl (fun rs q => widen rs (q.2 + 1).toNat) rs ↔ ∃ r0 ∈ rs, ∃ t, r = r0 ++ t ∧ stOk qs t)
  | [], rs, r, _ => by
    constructor
    · intro h
      exact ⟨r, h, [], by simp, rfl, fun i q v h1 _ => by simp at h1⟩
    · rintro ⟨r0, h, t, e, h1, _⟩
      have : t = [] := List.eq_nil_of_length_eq_zero h1
      rw [e, this, List.append_nil]; exact h
  | q :: qs, rs, r, h => by
    have hq := h q (List.mem_cons_self ..)
    rw [List.foldl_cons, mem_fold qs _ r fun x hx => h x (List.mem_cons_of_mem _ hx)]
    constructor
    · rintro ⟨r1, h1, t, e, so⟩
      unfold widen at h1
      obtain ⟨r0, h0, h1⟩ := List.mem_flatMap.mp h1
      obtain ⟨v, hv, rfl⟩ := List.mem_map.mp h1
      rw [List.mem_range] at hv
      refine ⟨r0, h0, (v : Int) :: t, by rw [e, List.append_assoc]; rfl, by simp [so.1], fun i q' v' h1 h2 => ?_⟩
      cases i with
      | zero =>
        cases h1
        cases h2
        omega
      | succ i => exact so.2 i q' v' (by simpa using h1) (by simpa using h2)
    · rintro ⟨r0, h0, t, e, so⟩
      cases t with
      | nil => exact absurd so.1 (by simp)
      | cons v t =>
        have b := so.2 0 q v rfl rfl
        refine ⟨r0 ++ [v], ?_, t, by rw [e, List.append_assoc]; rfl, by simpa using so.1, fun i q' v' h1 h2 => so.2 (i + 1) q' v' (by simpa using h1) (by simpa using h2)⟩
        unfold widen
        refine List.mem_flatMap.mpr ⟨r0, h0, List.mem_map.mpr ⟨v.toNat, List.mem_range.mpr (by omega), ?_⟩⟩
        have : ((v.toNat : Nat) : Int) = v := by omega
        rw [this]
theorem mem_grid {qs : List (Str × Int)} {r : List Int} (h : ∀ q ∈ qs, 0 ≤ q.2) : r ∈ grid qs ↔ stOk qs r := by
  unfold grid
  rw [mem_fold qs _ r h]
  constructor
  · rintro ⟨r0, h0, t, e, so⟩
    rw [List.mem_singleton] at h0
    rw [e, h0, List.nil_append]; exact so
  · intro so
    exact ⟨[], List.mem_singleton.mpr rfl, r, by simp, so⟩
end Ms
namespace Ms
open PySem PySem.Spec PyProof.Rows L2
/-! ### all_reached of the package -/
def nextsL (rs : List (List Int)) (es : List (List Int × List Int)) (r : List Int) : List Nat := (es.filter fun e => decide (e.1 = r)).map fun e => rs.idxOf e.2
def firstL (rs : List (List Int)) (es : List (List Int × List Int)) : List Nat := rs.map fun r => 2 ^ rs.idxOf r + bitsum (nextsL rs es r)
def reachedL (rs : List (List Int)) (es : List (List Int × List Int)) : List Nat := goAll (firstL rs es) rs.length
abbrev natV (ns : List Nat) : List V := ns.map fun n => V.int ((n : Nat) : Int)
def bitV (n : Nat) : List V := (List.range n).map fun i => V.int ((2 ^ i : Nat) : Int)
theorem bitV_len (n : Nat) : (bitV n).length = n := by unfold bitV; rw [List.length_map, List.length_range]
theorem bitV_at {n i : Nat} (h : i < n) : (bitV n)[i]? = some (V.int ((2 ^ i : Nat) : Int)) := by
  unfold bitV
  rw [List.getElem?_map, List.getElem?_range h]; rfl
theorem bitV_snoc (n : Nat) : bitV (n + 1) = bitV n ++ [V.int ((2 ^ n : Nat) : Int)] := by
  unfold bitV
  rw [List.range_succ, List.map_append]; rfl
theorem idx_at {rs : List (List Int)} {r : List Int} (h : r ∈ rs) : rs[rs.idxOf r]? = some r := by
  have lt := List.idxOf_lt_length_of_mem h
  rw [List.getElem?_eq_getElem lt, List.getElem_idxOf lt]
theorem idx_of {rs : List (List Int)} {r : List Int} {i : Nat} (nd : rs.Nodup) (h : rs[i]? = some r) : rs.idxOf r = i := by
  have m := List.mem_of_getElem? h
  have lt := List.idxOf_lt_length_of_mem m
  obtain ⟨li, e⟩ := List.getElem?_eq_some_iff.mp h
  exact (List.getElem_inj nd).mp ((List.getElem_idxOf lt).trans e.symm)
theorem sum_bits : ∀ l : List Nat, ((l.map fun k => ((2 ^ k : Nat) : Int))).sum = ((bitsum l : Nat) : Int)
  | [] => rfl
  | k :: l => by
    show ((2 ^ k : Nat) : Int) + (l.map fun k => ((2 ^ k : Nat) : Int)).sum = (((2 ^ k + bitsum l : Nat)) : Int)
    rw [sum_bits l, Int.natCast_add]
/-- the pairs of the switches, told -/
structure SwOk (rs : List (List Int)) (es : List (List Int × List Int)) : Prop where
  nd : es.Nodup
  fst : ∀ e ∈ es, e.1 ∈ rs
  snd : ∀ e ∈ es, e.2 ∈ rs
  ne : ∀ e ∈ es, e.1 ≠ e.2
  few : es.length ≤ 100000
structure TxtG (mg : Str → Option Value) : Prop where
  enumerate : mg "enumerate" = none
  sum : mg "sum" = none
  range : mg "range" = none
  len : mg "len" = none
  list : mg "list" = none
  zip : mg "zip" = none
  sorted : mg "sorted" = none
  set : mg "set" = none
section
variable {P : Program} {w : World} {K : PySem.W.Frag} {mg : Str → Option Value} {base : Heap}
abbrev NAr : List Str := ["grid", "switches", "bits", "reached", "at", "through", "number", "standing", "first", "second", "others"]
theorem scAr : FnScope NAr ["grid", "switches"] (defScope sReached) := ⟨rfl, rfl, rfl, by decide +kernel, rfl, by decide +kernel, by decide +kernel⟩
def spReached (K : PySem.W.Frag) : Sp := fun vs H Q _ => ∃ (p s : Addr) (as : List Addr) (rs : List (List Int)) (ws : List V) (es : List (List Int × List Int)), vs = [.ref p, .ref s] ∧ SqT K H p (as.map V.ref) ∧ Rws H as rs ∧ rs.Nodup ∧ rs.length ≤ 900 ∧ SqT K H s ws ∧ Prq K H ws es ∧ SwOk rs es ∧
  ∀ D H', H D = none → Same H H' → H' D = some (.lst (natV (reachedL rs es))) → Q (.ref D) H'
theorem ok_reached {f : Addr} {fd : FuncData} (F : Fun K "all_reached" "all_reached" sReached f fd) (T : TxtG mg) : FnOk P w K mg base CX0 1 f fd ["grid", "switches"] (spReached K) := by
  refine F.ok scAr (fun vs H Q E h => ?_) (fun cdv A outer s H vs Q E hr h => ?_)
  · obtain ⟨p, s, as, rs, ws, es, rfl, _⟩ := h
    rfl
  obtain ⟨p, sw, as, rs, ws, es, rfl, hp, rw1, nd, l9, hsw, pq, ok, q⟩ := h
  have ll := rw1.length
  have lw := pq.len
  have hu := hu_of hr
  refine ⟨_, pss_cons (ps_set (i := 2) scAr.nd rfl (Or.inr rfl) (pe_dcT (own := [("number", 6), ("standing", 7)]) (g := gTup K 2 (gCons (gName 6) (gCons (gName 7) gNil))) (by rfl) hu scAr.nd (pi_et (by rfl) T.enumerate (pa_cons (pv 0) pa_nil)) (blkOk_by (own := [("number", 6), ("standing", 7)]) (N := NAr) (sc := defScope sReached) (by decide +kernel))
      (fun _ _ _ _ _ => pg_tup rfl (pgs_cons (pg_name (i := 6) scAr.nd rfl (by first | exact Or.inl rfl | exact Or.inr rfl)) (pgs_cons (pg_name (i := 7) scAr.nd rfl (by first | exact Or.inl rfl | exact Or.inr rfl)) pgs_nil))) (fun _ _ _ _ _ => pv 7) (fun _ _ _ _ _ => pe_op op_shl pe_int (pv 6))))
    (pss_cons (ps_setLc (i := 3) (own := [("standing", 7)]) (g := gName 7) (by rfl) scAr.nd rfl rfl (sw_true rfl rfl rfl (by decide +kernel)) (pi_tup (pv 0)) (blkOk_by (own := [("standing", 7)]) (N := NAr) (sc := defScope sReached) (by decide +kernel))
      (fun _ _ _ _ _ => pg_name (i := 7) scAr.nd rfl (by first | exact Or.inl rfl | exact Or.inr rfl)) (fun _ _ _ _ _ => pts_nil)
      (fun _ _ _ _ _ => pe_op op_add (pe_dgetK K hu (pv 2) (pv 7) (fun _ _ => rfl)) (pe_callB (show CallR _ (.builtin "sum") (rSum K) from by exact cr_sum (by rfl)) (by rfl) T.sum (by decide +kernel) (pa_cons
        (pe_lc (own := [("first", 8), ("second", 9)]) (g := gTup K 2 (gCons (gName 8) (gCons (gName 9) gNil))) (wi := iTup K (tVar 1)) (by rfl) scAr.nd (pi_tup (pv 1)) (BlkOk.rel (blkOk_by (own := [("first", 8), ("second", 9)]) (N := NAr) (by decide +kernel)))
          (fun _ _ _ _ _ => pg_tup rfl (pgs_cons (pg_name (i := 8) scAr.nd rfl (by first | exact Or.inl rfl | exact Or.inr rfl)) (pgs_cons (pg_name (i := 9) scAr.nd rfl (by first | exact Or.inl rfl | exact Or.inr rfl)) pgs_nil)))
          (fun _ _ _ _ _ => pts_one (pt_cmpR (show OpR _ (compareOp .Eq) (rEqD K) from op_eqD (by exact hr.units)) (pv 8) (pv 7) (nomark _))) (fun _ _ _ _ _ => pe_dgetK K hu (pv 2) (pv 9) (fun _ _ => rfl))) pa_nil))))
    (pss_cons (ps_for PassesOwn.never rfl (pi_range1 (by rfl) T.range (pa_cons (pe_callB call_len_seq (by rfl) T.len PySem.boot_len (pa_cons (pv 0) pa_nil)) pa_nil)) (pg_name (i := 4) scAr.nd rfl (Or.inr rfl))
      (pss_cons (ps_set (i := 5) scAr.nd rfl (Or.inr rfl) (pe_ix (show IxR _ (rIxL K) from ix_list) (pv 3) (pv 4) (fun _ _ => rfl)))
      (pss_one (ps_setLc (i := 3) (own := [("others", 10)]) (g := gName 10) (by rfl) scAr.nd rfl rfl (sw_true rfl rfl rfl (by decide +kernel)) (pi_list (pv 3)) (blkOk_by (own := [("others", 10)]) (N := NAr) (sc := defScope sReached) (by decide +kernel))
        (fun _ _ _ _ _ => pg_name (i := 10) scAr.nd rfl (by first | exact Or.inl rfl | exact Or.inr rfl)) (fun _ _ _ _ _ => pts_nil)
        (fun _ _ _ _ _ => pe_ifExp (pt_truthK K (pe_op op_and (pe_op op_shr (pv 10) (pv 4)) pe_int) (by intro _; rfl)) (pe_op op_or (pv 10) (pv 5)) (pv 10))))))
    (pss_one (ps_ret (pv 3))))), ?_⟩
  refine ⟨_, rfl, p, _, rfl, hp, fun D hD => ?_⟩
  have lm : (as.map V.ref).length = rs.length := by rw [List.length_map, ll]
  refine dcT_it (walk_et (xs := as.map V.ref)) (fun i H3 => Same H H3 ∧ H3 D = some (.dT (rowTab (rs.take i) (bitV i)))) ⟨Same.upd hD, by rw [upd_same]; rfl⟩ (fun i H3 _ ⟨s3, _⟩ => Same.seqT s3 hp) ?_ ?_
  · rintro i x H3 H4 hi ⟨s3, g3⟩ ⟨TT, x1, x2, rfl, hT, rfl, e1, e2⟩
    have ex1 : x1 = .int (i : Nat) := (Option.some.inj e1).symm
    subst ex1
    have hi' : i < rs.length := by omega
    have e2 : (as.map V.ref)[i]? = some x2 := e2
    rw [List.getElem?_map] at e2
    obtain ⟨b, hb, rfl⟩ := Option.map_eq_some_iff.mp e2
    obtain ⟨r, hr1, hb1⟩ := rw1.get hb
    have sT : Same H3 (upd H3 TT (.tup [.int (i : Nat), .ref b])) := Same.upd hT
    have gD := sT _ _ g3
    have no : r ∉ rs.take i := fun hm => by
      obtain ⟨j, hj⟩ := List.mem_iff_getElem?.mp hm
      rw [List.getElem?_take] at hj
      split at hj
      · rename_i hji
        have := idx_of nd hj
        have := idx_of nd hr1
        omega
      · cases hj
    have ti : rs.take (i + 1) = rs.take i ++ [r] := by rw [List.take_succ, hr1]; rfl
    have li : (rs.take i).length = (bitV i).length := by rw [List.length_take, bitV_len]; omega
    have pw : (1 : Int) * 2 ^ ((i : Nat) : Int).toNat = ((2 ^ i : Nat) : Int) := by rw [Int.one_mul, Int.toNat_natCast, Int.natCast_pow]; rfl
    refine ⟨TT, _, rfl, .inl (.inl upd_same), rfl, _, _, rfl, _, _, rfl, rfl, rfl, ?_⟩
    refine ⟨_, rfl, _, rfl, 1, ((i : Nat) : Int), rfl, rfl, ⟨Int.natCast_nonneg _, by omega, by decide⟩, ?_⟩
    refine ⟨_, rowK r, b, rfl, by rw [rowK_V]; exact sT _ _ (s3 _ _ hb1), gD, ?_, ?_, ?_⟩
    · rw [rowTab_len li, List.length_take]
      exact small1000 (by omega)
    · intro c o hc
      rw [upd_ne (ne_of_none hc hD)]
      exact sT _ _ (s3 c o hc)
    · rw [upd_same]
      show some (HO.dT (putK _ _ (V.int ((1 : Int) * 2 ^ ((i : Nat) : Int).toNat)))) = _
      rw [pw, rowTab_put no li, ti, bitV_snoc]
  · rintro H3 ⟨s3, g3⟩
    have g3 : H3 D = some (.dT (rowTab rs (bitV rs.length))) := by
      rw [lm, List.take_length] at g3
      exact g3
    have bit_at : ∀ {H' : Hp}, Same H3 H' → ∀ {r}, r ∈ rs → Rd H' D (.dT (rowTab rs (bitV rs.length))) ∧ valV (rowTab rs (bitV rs.length)) (rowK r) = some (.int ((2 ^ rs.idxOf r : Nat) : Int)) := fun k r hr2 =>
      ⟨.inl (k _ _ g3), rowTab_at nd (idx_at hr2) (bitV_at (List.idxOf_lt_length_of_mem hr2))⟩
    have rw3 : Rws H3 as rs := rw1.same fun b o _ e => s3 b o e
    have pq3 : Prq K H3 ws es := pq.same s3
    refine ⟨_, rfl, p, rfl, ⟨_, Same.seqT s3 hp⟩, fun D3 hD3 => ?_⟩
    refine lc_it (walk_tup (xs := as.map V.ref)) (fun i H4 => Same H3 H4 ∧ H4 D3 = some (.lst (natV ((firstL rs es).take i)))) ⟨Same.upd hD3, by rw [upd_same]; rfl⟩ (fun i H4 _ ⟨s4, _⟩ => Same.seqT (s3.trans s4) hp) ?_ ?_
    · rintro i x H4 H5 hi ⟨s4, g4⟩ ⟨eH, hx⟩
      have eH := eH.symm
      subst eH
      have hx : (as.map V.ref)[i]? = some x := hx
      rw [List.getElem?_map] at hx
      obtain ⟨b, hb, rfl⟩ := Option.map_eq_some_iff.mp hx
      obtain ⟨r, hr1, hb1⟩ := rw3.get hb
      have rm := List.mem_of_getElem? hr1
      obtain ⟨v1, v2⟩ := bit_at s4 rm
      refine ⟨rfl, tyes ?_⟩
      refine ⟨_, rfl, _, rfl, D, _, rowK r, b, _, rfl, v1, rfl, .inl (.inl (by rw [rowK_V]; exact s4 _ _ hb1)), v2, ?_⟩
      refine ⟨_, rfl, sw, rfl, ⟨_, Same.seqT (s3.trans s4) hsw⟩, fun D4 hD4 => ?_⟩
      refine lc_it (walk_tup (xs := ws)) (fun j H6 => Same H4 H6 ∧ H6 D4 = some (.lst ((nextsL rs (es.take j) r).map fun k => V.int ((2 ^ k : Nat) : Int)))) ⟨Same.upd hD4, by rw [upd_same]; rfl⟩ (fun j H6 _ ⟨s6, _⟩ => Same.seqT (s3.trans (s4.trans s6)) hsw) ?_ ?_
      · rintro j y H6 H7 hj ⟨s6, g6⟩ ⟨eH, hy⟩
        have eH := eH.symm
        subst eH
        have hy : ws[j]? = some y := hy
        have s46 := s4.trans s6
        obtain ⟨e, a1, b1, b2, he, rfl, h1, h2, h3⟩ := (pq3.same s46).get hy
        have em := List.mem_of_getElem? he
        have tk : nextsL rs (es.take (j + 1)) r = nextsL rs (es.take j) r ++ (if e.1 = r then [rs.idxOf e.2] else []) := by
          unfold nextsL
          rw [List.take_succ, he, List.filter_append, List.map_append]
          congr 1
          by_cases c : e.1 = r
          · rw [if_pos c]
            show List.map _ (List.filter _ [e]) = _
            rw [List.filter_cons, if_pos (by simpa using c)]; rfl
          · rw [if_neg c]
            show List.map _ (List.filter _ [e]) = _
            rw [List.filter_cons, if_neg (by simpa using c)]; rfl
        have few : (nextsL rs (es.take j) r).length ≤ es.length := by
          unfold nextsL
          rw [List.length_map]
          refine Nat.le_trans (List.length_filter_le _ _) ?_
          rw [List.length_take]; omega
        refine ⟨a1, _, rfl, h1, rfl, _, _, rfl, _, _, rfl, rfl, rfl, ?_⟩
        refine ⟨_, rfl, _, rfl, rowD e.1, rowD r, .tup h2 (dpAll_ints _), .tup (.inl (.inl (s46 _ _ hb1))) (dpAll_ints _), shaped_tints _, shaped_tints _, _, rfl, ?_⟩
        rw [eqv_rowD]
        by_cases c : e.1 = r
        · rw [if_pos c] at tk
          refine ifT (decide_eq_true c) ?_
          obtain ⟨w1, w2⟩ := bit_at s46 (ok.snd e em)
          refine ⟨_, rfl, _, rfl, D, _, rowK e.2, b2, _, rfl, w1, rfl, by rw [rowK_V]; exact h3, w2, _, g6, ?_, fun c' o hc' => ?_, ?_⟩
          · rw [List.length_map]
            have := ok.few
            rw [sizeLine_eq]; omega
          · rw [upd_ne (ne_of_none hc' hD4)]; exact s6 c' o hc'
          · rw [upd_same, tk, List.map_append]; rfl
        · rw [if_neg c, List.append_nil] at tk
          refine ifF (decide_eq_false c) ⟨s6, ?_⟩
          rw [tk]; exact g6
      · rintro H6 ⟨s6, g6⟩
        rw [List.take_of_length_le (by omega)] at g6
        refine ⟨D4, (nextsL rs es r).map fun k => ((2 ^ k : Nat) : Int), rfl, SqL.of (by rw [List.map_map]; exact g6), ?_⟩
        rw [sum_bits]
        have ei : rs.idxOf r = i := idx_of nd hr1
        have fa : (firstL rs es)[i]? = some (2 ^ rs.idxOf r + bitsum (nextsL rs es r)) := by
          unfold firstL
          rw [List.getElem?_map, hr1]; rfl
        refine ⟨_, _, rfl, rfl, _, s6 _ _ g4, ?_, fun c o hc => ?_, ?_⟩
        · rw [List.length_map, List.length_take]
          exact small1000 (by unfold firstL; rw [List.length_map]; omega)
        · rw [upd_ne (ne_of_none hc hD3)]; exact s6 _ _ (s4 c o hc)
        · rw [upd_same, List.take_succ, fa]
          show _ = some (HO.lst (List.map _ (_ ++ [_])))
          rw [List.map_append]
          rfl
    · rintro H4 ⟨s4, g4⟩
      have lf : (firstL rs es).length = rs.length := by unfold firstL; rw [List.length_map]
      rw [lm, ← lf, List.take_length] at g4
      refine ⟨_, rfl, p, _, rfl, .inr (Same.seqT (s3.trans s4) hp), ?_⟩
      refine ⟨_, rfl, by rw [lm]; omega, by rw [lm]; omega, ?_⟩
      refine for_it walk_range (fun i σ H5 => ∃ (u4 u5 : Option V) (D5 : Addr), σ = [some (.ref p), some (.ref sw), some (.ref D), some (.ref D5), u4, u5, none, none, none, none, none] ∧ Same H4 H5 ∧ H5 D5 = some (.lst (natV (goAll (firstL rs es) i))) ∧ (H D5 = none))
        ⟨none, none, D3, rfl, Same.refl H4, g4, Same.free s3 hD3⟩ (fun _ _ _ _ _ => trivial) ?_ ?_
      · rintro i x σ H5 H6 hi ⟨u4, u5, D5, rfl, s5, g5, fr⟩ y
        obtain ⟨eH, rfl⟩ := y
        have eH := eH.symm
        subst eH
        have hi' : i < rs.length := by rw [lm] at hi; exact hi
        have lg : (goAll (firstL rs es) i).length = rs.length := by rw [goAll_len, lf]
        have thr : (goAll (firstL rs es) i)[i]? = some ((goAll (firstL rs es) i).getD i 0) := by
          rw [List.getD_eq_getElem?_getD, List.getElem?_eq_getElem (by omega)]; rfl
        have ei : (0 : Int) + (i : Int) = ((i : Nat) : Int) := Int.zero_add _
        have step : goAll (firstL rs es) (i + 1) = goThrough (goAll (firstL rs es) i) i := rfl
        generalize goAll (firstL rs es) i = us at g5 lg thr step
        show gName 4 (V.int ((0 : Int) + (i : Int))) _ _ _
        rw [ei]
        refine ⟨_, rfl, _, rfl, D5, _, ((i : Nat) : Int), .int ((us.getD i 0 : Nat) : Int), rfl, rfl, SqL.of g5, atI_nat (by rw [List.getElem?_map, thr]; rfl), ?_⟩
        refine ⟨_, rfl, D5, rfl, ⟨_, SqL.of g5⟩, fun D6 hD6 => ?_⟩
        refine lc_it (walk_list (xs := natV us)) (fun j H7 => Same H5 H7 ∧ H7 D6 = some (.lst (natV ((goThrough us i).take j)))) ⟨Same.upd hD6, by rw [upd_same]; rfl⟩ (fun j H7 _ ⟨s7, _⟩ => SqL.of (s7 _ _ g5)) ?_ ?_
        · rintro j x H7 H8 hj ⟨s7, g7⟩ ⟨eH, hx⟩
          have eH := eH.symm
          subst eH
          have hx : (natV us)[j]? = some x := hx
          rw [List.getElem?_map] at hx
          obtain ⟨u, hu1, rfl⟩ := Option.map_eq_some_iff.mp hx
          have e1 : ((u : Nat) : Int) / 2 ^ ((i : Nat) : Int).toNat = ((u / 2 ^ i : Nat) : Int) := by
            rw [Int.toNat_natCast]
            norm_cast
          have e2 : Builtin.bitAnd ((u / 2 ^ i : Nat) : Int) 1 = ((u / 2 ^ i % 2 : Nat) : Int) := by
            rw [bitAnd_m1]; rfl
          have e3 : (((u / 2 ^ i % 2 : Nat) : Int) != 0) = u.testBit i := by
            rw [Nat.testBit_eq_decide_div_mod_eq]
            rcases Nat.mod_two_eq_zero_or_one (u / 2 ^ i) with z | z <;> rw [z] <;> rfl
          have gt : (goThrough us i)[j]? = some (if u.testBit i then u ||| us.getD i 0 else u) := by
            unfold goThrough
            rw [List.getElem?_map, hu1]; rfl
          have tk : natV ((goThrough us i).take (j + 1)) = natV ((goThrough us i).take j) ++ [V.int (((if u.testBit i then u ||| us.getD i 0 else u : Nat)) : Int)] := by
            rw [List.take_succ, gt]; exact List.map_append
          have fin : ∀ {z : V}, z = V.int (((if u.testBit i then u ||| us.getD i 0 else u : Nat)) : Int) → ∃ acc, H7 D6 = some (.lst acc) ∧ acc.length < sizeLine ∧ (Same H5 (upd H7 D6 (.lst (acc ++ [z]))) ∧ upd H7 D6 (.lst (acc ++ [z])) D6 = some (.lst (natV ((goThrough us i).take (j + 1))))) := fun {z} ez =>
            ⟨_, g7, small1000 (by rw [List.length_map, List.length_take]; unfold goThrough; rw [List.length_map]; omega), (fun c o hc => by rw [upd_ne (ne_of_none hc hD6)]; exact s7 c o hc), by rw [upd_same, tk, ez]⟩
          refine ⟨rfl, tyes ?_⟩
          refine ⟨_, rfl, _, rfl, _, _, rfl, rfl, Int.natCast_nonneg _, _, _, rfl, rfl, u.testBit i, ?_, ?_⟩
          · show u.testBit i = (Builtin.bitAnd (((u : Nat) : Int) / 2 ^ ((i : Nat) : Int).toNat) 1 != 0)
            rw [e1, e2, e3]
          · by_cases c : u.testBit i = true
            · refine ifT c ⟨_, rfl, _, rfl, _, _, rfl, rfl, fin ?_⟩
              rw [if_pos c]
              show V.int (Builtin.bitOr ((u : Nat) : Int) ((us.getD i 0 : Nat) : Int)) = _
              rw [Bits.bitOr_pp (Int.natCast_nonneg _) (Int.natCast_nonneg _), Int.toNat_natCast, Int.toNat_natCast]
            · refine ifF (by simpa using c) ⟨_, rfl, fin ?_⟩
              rw [if_neg c]
        · rintro H7 ⟨s7, g7⟩
          have l2 : (natV us).length = (goThrough us i).length := by unfold goThrough; rw [List.length_map, List.length_map]
          rw [l2, List.take_length, ← step] at g7
          exact ⟨_, _, D6, rfl, s5.trans s7, g7, Same.free (s3.trans (s4.trans s5)) hD6⟩
      · rintro σ H5 ⟨u4, u5, D5, rfl, s5, g5, fr⟩
        rw [lm] at g5
        exact ⟨_, rfl, q D5 H5 fr (s3.trans (s4.trans s5)) g5⟩
end
end Ms
namespace Ms
open PySem PySem.Spec PyProof.Rows L2
/-! ### the way of a search in a set's table -/
/-- where the search for the hash e stands after c steps -/
abbrev prb (M : Nat) (e : Int) (c : Nat) : SetTable.Probe := nth M (runAt M (SetTable.bits e % (M + 1)) (SetTable.bits e)) c
theorem prb_dummy (M : Nat) (e : Int) (c : Nat) : (prb M e c).dummy = none := by
  have key : ∀ (c : Nat) (p : SetTable.Probe), p.dummy = none → (nth M p c).dummy = none := by
    intro c
    induction c with
    | zero => exact fun p e => e
    | succ c ih => exact fun p e => ih (adv M p) (by unfold adv; split <;> exact e)
  exact key c _ rfl
theorem prb_add (M : Nat) (e : Int) (c d : Nat) : nth M (prb M e c) d = prb M e (c + d) := (nth_add M c _ d).symm
abbrev hashOf (es : Array (Int × Value)) (i : Nat) : Int := (es[i]?.map (·.1)).getD 0
theorem hashOf_at {es : Array (Int × Value)} {i : Nat} {e : Int} {v : Value} (h : es[i]? = some (e, v)) : hashOf es i = e := by
  unfold hashOf
  rw [h]
  rfl
end Ms
namespace Ms
open PySem PySem.Spec PyProof.Rows L2
/-! ### a small set of tuples of ints: the search -/
structure SetW (P : Program) (w : World) (h : Heap) (a : Addr) (L : List (Addr × List Int)) (es : Array (Int × Value)) (ep : Nat) (t : SetTable) : Prop where
  ob : ∃ o, h.get? a = some o ∧ o.ExactSet ∧ o.data = .set es ep t
  rows : es.toList = L.map fun p => (thash P w p.2, Value.ref p.1)
  tab : TabOk t (L.map fun p => thash P w p.2)
  nd : (L.map (·.2)).Nodup
  prs : ∀ p ∈ L, IsT P w h p.2 p.1
  plain : t.plain = true
  led : w.params.followText "set-order" = true ∨ t.led = true
  room : L.length * 5 < t.mask * 3
section
variable {P : Program} {w : World} {A : Around} {E : Value → Shared → Prop} {s : Shared} {a x : Addr} {q : List Int} {L : List (Addr × List Int)} {es : Array (Int × Value)} {ep : Nat} {t : SetTable}
theorem SetW.sz (R : SetW P w s.heap a L es ep t) : es.size = L.length := by
  have e := congrArg List.length R.rows
  rwa [List.length_map, Array.length_toList] at e
theorem SetW.tsz (R : SetW P w s.heap a L es ep t) : t.place.size = L.length := by
  have e := R.tab.sz
  rwa [List.length_map] at e
theorem SetW.fits (R : SetW P w s.heap a L es ep t) : t.fits es.size = true := by
  have e1 := R.tsz
  have e2 := R.sz
  have e3 := R.room
  unfold SetTable.fits SetTable.fill
  rw [R.tab.dm, Bool.and_eq_true, beq_iff_eq, decide_eq_true_eq]
  exact ⟨by rw [e1, e2], by show t.place.size + 0 ≤ t.mask; omega⟩
theorem SetW.at_ (R : SetW P w s.heap a L es ep t) {i : Nat} {p : Addr × List Int} (e : L[i]? = some p) : es[i]? = some (thash P w p.2, Value.ref p.1) := by
  rw [← Array.getElem?_toList, R.rows, List.getElem?_map, e]
  rfl
theorem SetW.notGone (R : SetW P w s.heap a L es ep t) : ¬ t.gaveWay = true := by
  have o : t.mask % 2 = 1 := mask_odd R.tab.mok
  unfold SetTable.gaveWay
  rw [o]
  decide
end
/-! ### a small set of tuples of ints: what the search finds -/
section
variable {P : Program} {w : World} {A : Around} {E : Value → Shared → Prop} {s : Shared} {a x : Addr} {q : List Int} {L : List (Addr × List Int)} {es : Array (Int × Value)} {ep : Nat} {t : SetTable}
theorem lookW_from (HO : ∀ (i : Nat) p, L[i]? = some p → hashOf es i = thash P w p.2) (R : SetW P w s.heap a L es ep t) (hx : IsT P w s.heap q x) (hu : A.units + 8 < cLine) {N : Nat} (hN : N < 10 * SetTable.turns t.mask)
    (out : (prb t.mask (thash P w q) N).j ∉ t.place.toList) (ins : ∀ c, c < N → (prb t.mask (thash P w q) c).j ∈ t.place.toList) {Q : SetFound → Shared → Prop}
    (yes : q ∈ L.map (·.2) → Q (.there none) s) (no : q ∉ L.map (·.2) → Q (.free (prb t.mask (thash P w q) N).j false) s) :
    ∀ (f c : Nat) (stand : Option SetTable.Probe), stand.getD (t.probeStart (thash P w q)) = prb t.mask (thash P w q) c → c ≤ N → N - c < f →
      (∀ (i : Nat) p, L[i]? = some p → p.2 = q → ∃ d, c ≤ d ∧ d < N ∧ t.place.toList[i]? = some (prb t.mask (thash P w q) d).j) →
      wpAny (model P w) A (setSearchFrom a (.ref x) (thash P w q) true f stand) Q E s
  | 0, c, stand, _, _, lf, _ => absurd lf (Nat.not_lt_zero _)
  | f + 1, c, stand, st, cN, lf, far => by
    obtain ⟨o, oa, oe, od⟩ := R.ob
    rw [setSearchFrom_succ]
    refine wpAny_bind (wpAny_setState_of oa od R.fits ?_)
    simp only
    refine wp_if_neg R.notGone ?_
    have S := go_spec t R.tab.ris R.tab.dm (hashOf es) (thash P w q) (10 * SetTable.turns t.mask) (N - c) (prb t.mask (thash P w q) c) (prb_dummy _ _ _) (by omega)
      (fun d hd => by rw [prb_add]; exact ins (c + d) (by omega)) (by rw [prb_add, show c + (N - c) = N by omega]; exact out)
    have same : t.probe (fun i => (es[i]?.map (·.1)).getD 0) (thash P w q) (stand.getD (t.probeStart (thash P w q))) = SetTable.probe.go t (hashOf es) (thash P w q) (10 * SetTable.turns t.mask) (prb t.mask (thash P w q) c) := by rw [st]; rfl
    rcases S with ⟨d, i, dN, hi, hh, hno, hp⟩ | ⟨hno, hp⟩
    · -- one of the same hash
      rw [same, hp]
      simp only
      rw [prb_add] at hi
      have il : i < L.length := by
        have e1 : i < t.place.toList.length := (List.getElem?_eq_some_iff.mp hi).1
        have e2 := R.tsz
        rw [Array.length_toList] at e1
        omega
      have ip : L[i]? = some L[i] := List.getElem?_eq_getElem il
      obtain ⟨p, ep'⟩ : ∃ p, p = L[i] := ⟨_, rfl⟩
      rw [← ep'] at ip
      have pm : p ∈ L := List.mem_of_getElem? ip
      have rest : wpAny (model P w) A (searchRest a (.ref x) (thash P w q) true f es t (nth t.mask (prb t.mask (thash P w q) c) d).j i (nth t.mask (prb t.mask (thash P w q) c) (d + 1))) Q E s := by
        rw [prb_add, prb_add]
        unfold searchRest
        rw [R.at_ ip]
        simp only
        refine wpAny_bind (wpAny_holding (wpAny_eqBool_tuple (by omega) (R.prs p pm) hx ?_))
        refine wpAny_bind (wpAny_setState_of oa od R.fits ?_)
        simp only
        by_cases pq : p.2 = q
        · refine wp_if_pos (by simp [pq]) (wpAny_pure (yes (List.mem_map.mpr ⟨p, pm, pq⟩)))
        · refine wp_if_neg (by simp [pq]) ?_
          rw [sameMem]
          have live : t.slot (prb t.mask (thash P w q) (c + d)).j = .live i := slot_live R.tab.ris hi
          simp only [if_true, live, R.at_ ip]
          refine wpAny_bind (wpAny_isSame_ref_self (wpAny_bind (wpAny_pure ?_)))
          simp only [if_true]
          refine wp_if_neg (by simp [pq]) ?_
          refine lookW_from HO R hx hu hN out ins yes no f (c + (d + 1)) _ rfl (by omega) (by omega) fun j r rj rq => ?_
          obtain ⟨z, z1, z2, z3⟩ := far j r rj rq
          refine ⟨z, ?_, z2, z3⟩
          rcases Nat.lt_trichotomy z (c + d) with lt | eq | gt
          · exact absurd ((HO _ _ rj).trans (congrArg (thash P w) rq)) (hno (z - c) j (by omega) (by rw [prb_add, show c + (z - c) = z by omega]; exact z3))
          · rw [eq] at z3
            have l2 := slot_live R.tab.ris z3
            rw [live] at l2
            injection l2 with l2
            rw [← l2, ip] at rj
            cases rj
            exact absurd rq pq
          · omega
      by_cases tl : t.led = true
      · exact wp_if_neg (by simp [tl]) rest
      · refine wp_if_pos (by simp [tl]) (wpAny_bind (seen_tup hx (fun y hy => ?_) ?_))
        · obtain ⟨e, he, rfl⟩ := List.mem_map.mp hy
          have h1 : e ∈ es ∧ e.1 = thash P w q := by simpa using he
          have h2 : e ∈ es.toList := by simpa using h1.1
          rw [R.rows] at h2
          obtain ⟨r, rm, rfl⟩ := List.mem_map.mp h2
          exact ⟨r.2, r.1, rfl, R.prs r rm⟩
        · exact wp_if_neg (by decide) rest
    · -- a free place
      rw [same, hp, prb_add, show c + (N - c) = N by omega]
      refine wpAny_pure (no fun hm => ?_)
      obtain ⟨r, rm, rq⟩ := List.mem_map.mp hm
      obtain ⟨i, il, ri⟩ := List.getElem_of_mem rm
      have rj : L[i]? = some r := by rw [List.getElem?_eq_getElem il, ri]
      obtain ⟨z, z1, z2, z3⟩ := far i r rj rq
      exact hno (z - c) i (by omega) (by rw [prb_add, show c + (z - c) = z by omega]; exact z3) ((HO _ _ rj).trans (congrArg (thash P w) rq))
end
/-! ### a small set of tuples of ints: the search as adding asks for it -/
section
variable {P : Program} {w : World} {A : Around} {E : Value → Shared → Prop} {s : Shared} {a x : Addr} {q : List Int} {L : List (Addr × List Int)} {es : Array (Int × Value)} {ep : Nat} {t : SetTable}
theorem SetW.hash_at (R : SetW P w s.heap a L es ep t) (i : Nat) (p : Addr × List Int) (e : L[i]? = some p) : hashOf es i = thash P w p.2 := hashOf_at (R.at_ e)
theorem lookW (R : SetW P w s.heap a L es ep t) (hx : IsT P w s.heap q x) (hu : A.units + 8 < cLine) {Q : SetFound → Shared → Prop} (yes : q ∈ L.map (·.2) → Q (.there none) s)
    (no : ∀ N, q ∉ L.map (·.2) → way t.mask (thash P w q) N ∉ t.place.toList → (∀ c, c < N → way t.mask (thash P w q) c ∈ t.place.toList) → Q (.free (way t.mask (thash P w q) N) false) s) :
    wpAny (model P w) A (setSearch a (.ref x) (thash P w q) true) Q E s := by
  have room := R.room
  obtain ⟨N, nf, out, ins⟩ := R.tab.first (by rw [List.length_map]; omega) (thash P w q)
  have big : N < 100000 := by
    have mk := R.tab.mok
    unfold MaskOk at mk
    unfold SetTable.turns at nf
    omega
  unfold setSearch
  refine lookW_from R.hash_at R hx hu nf out ins yes (fun z => no N z out ins) 100000 0 none rfl (Nat.zero_le _) (by omega) fun i p ip pq => ?_
  have il : i < t.place.toList.length := by
    have e1 : i < L.length := (List.getElem?_eq_some_iff.mp ip).1
    have e2 := R.tsz
    rw [Array.length_toList]
    omega
  obtain ⟨c, hc, e⟩ := R.tab.before out (show (L.map fun p => thash P w p.2)[i]? = some (thash P w q) by rw [List.getElem?_map, ip, ← pq, Option.map_some]) (List.getElem?_eq_getElem il)
  exact ⟨c, Nat.zero_le _, hc, by rw [List.getElem?_eq_getElem il]; exact congrArg some e.symm⟩
end
end Ms
namespace Ms
open PySem PySem.Spec PyProof.Rows L2
/-! ### a small set of tuples of ints: one is added -/
section
variable {P : Program} {w : World} {A : Around} {E : Value → Shared → Prop} {s : Shared} {a x : Addr} {q : List Int} {L : List (Addr × List Int)} {es : Array (Int × Value)} {ep : Nat} {t : SetTable}
theorem SetW.tr (R : SetW P w s.heap a L es ep t) (few : L.length < 64) : SetTR P w s.heap a L es ep t := ⟨R.ob, R.rows, R.tab, R.nd, R.prs, R.plain, R.led, R.room, few⟩
theorem setW_of {h : Heap} (R : SetTR P w h a L es ep t) : SetW P w h a L es ep t := ⟨R.ob, R.rows, R.tab, R.nd, R.tup, R.plain, R.led, R.room⟩
theorem add_big (R : SetW P w s.heap a L es ep t) (hx : IsT P w s.heap q x) (hu : A.units + 8 < cLine) (big : 63 ≤ L.length) (few : q ∉ L.map (·.2) → L.length + 1 ≤ 76) {Q : Bool → Shared → Prop}
    (z : ∀ b h' L' es' ep' t', Heap.SameBut a s.heap h' → SetW P w h' a L' es' ep' t' → (q ∈ L.map (·.2) → L' = L) → (q ∉ L.map (·.2) → L'.Perm ((x, q) :: L)) → Q b { s with heap := h' }) :
    wpAny (model P w) A (setAddHashed a (.ref x) (thash P w q)) Q E s := by
  obtain ⟨o, oa, oe, od⟩ := R.ob
  have esz := R.sz
  unfold setAddHashed
  refine wpAny_holding ?_
  rw [show (100000 : Nat) = 99999 + 1 from rfl, setAddHashedIn_succ]
  refine wpAny_bind (wpAny_setState_of oa od R.fits ?_)
  simp only
  refine wp_if_neg (by simp [byScan, Value.scannable]) ?_
  have m127 : t.mask = 127 := by
    have mk := R.tab.mok
    have rm := R.room
    unfold MaskOk at mk
    omega
  refine wpAny_bind (lookW R hx hu (fun there => ?_) fun N gone out ins => ?_)
  · simp only
    exact wpAny_pure (z false s.heap L es ep t (Heap.SameBut.refl a s.heap) R (fun _ => rfl) fun y => absurd there y)
  · simp only
    refine wpAny_bind (wpAny_setState_of oa od R.fits ?_)
    simp only
    obtain ⟨p1, p2, p3, p4, p5, p6, p7, p8, p9⟩ := R.tab.put out ins
    obtain ⟨pt, ept⟩ : ∃ pt, pt = t.put (way t.mask (thash P w q) N) := ⟨_, rfl⟩
    rw [← ept] at p1 p3 p4 p5 p6 p7 p8 p9 ⊢
    obtain ⟨t1, n⟩ := pt
    simp only at p1 p3 p4 p5 p6 p7 p8 p9 ⊢
    have pl : t1.plain = true := p6.trans R.plain
    refine wp_if_pos pl (wpAny_bind (hashBy_tup hx ?_))
    simp only [if_true]
    rw [← p1] at p2 p3
    rw [List.length_map] at p2 p9
    have perm := put_perm L n (x, q)
    have lth : (L.take n ++ (x, q) :: L.drop n).length = L.length + 1 := perm.length_eq
    have rows : (SetTable.insertAt es n (thash P w q, Value.ref x)).toList = (L.take n ++ (x, q) :: L.drop n).map fun p => (thash P w p.2, Value.ref p.1) := by
      rw [SetTable.toList_insertAt, R.rows, List.map_append, List.map_cons, List.map_take, List.map_drop]
    have tab : TabOk t1 ((L.take n ++ (x, q) :: L.drop n).map fun p => thash P w p.2) := by
      rw [List.map_append, List.map_cons, List.map_take, List.map_drop]
      exact p3
    have nd : ((L.take n ++ (x, q) :: L.drop n).map (·.2)).Nodup := (perm.map (·.2)).nodup_iff.mpr (List.nodup_cons.mpr ⟨gone, R.nd⟩)
    have isz : (SetTable.insertAt es n (thash P w q, Value.ref x)).size = L.length + 1 := by
      have e := congrArg List.length rows
      rwa [List.length_map, Array.length_toList, lth] at e
    refine wpAny_bind (wpAny_storeSet_of oa od ?_ (by rw [isz, sizeLine_eq]; have fw := few gone; omega))
    have fw := few gone
    have full : t1.tooFull = false := by
      unfold SetTable.tooFull
      rw [p9, p4, m127]
      exact decide_eq_false (by omega)
    simp only [full, Bool.and_false, Bool.false_eq_true, if_false]
    have sb : Heap.SameBut a s.heap (s.heap.update a (Obj.putSet (SetTable.insertAt es n (thash P w q, Value.ref x)) t1)) := Heap.SameBut.update ..
    refine wpAny_pure (z true _ (L.take n ++ (x, q) :: L.drop n) (SetTable.insertAt es n (thash P w q, Value.ref x)) (ep + 1) t1 sb
      ⟨⟨_, store_at oa od, ⟨oe.1, oe.2.1, oe.2.2⟩, rfl⟩, rows, tab, nd, fun p hp => ?_, pl, by rw [p5]; exact R.led, by rw [lth, p4, m127]; omega⟩ (fun y => absurd y gone) fun _ => perm)
    rcases List.mem_cons.mp (perm.mem_iff.mp hp) with rfl | hp
    · exact isT_same hx oa od sb
    · exact isT_same (R.prs p hp) oa od sb
theorem add_w (R : SetW P w s.heap a L es ep t) (hx : IsT P w s.heap q x) (hu : A.units + 8 < cLine) (few : q ∉ L.map (·.2) → L.length + 1 ≤ 76) {Q : Bool → Shared → Prop}
    (z : ∀ b h' L' es' ep' t', Heap.SameBut a s.heap h' → SetW P w h' a L' es' ep' t' → (q ∈ L.map (·.2) → L' = L) → (q ∉ L.map (·.2) → L'.Perm ((x, q) :: L)) → Q b { s with heap := h' }) :
    wpAny (model P w) A (setAddHashed a (.ref x) (thash P w q)) Q E s := by
  by_cases c : L.length + 1 < 64
  · exact add_at (R.tr (by omega)) hx (by omega) c fun b h' L' es' ep' t' e1 e2 e3 e4 => z b h' L' es' ep' t' e1 (setW_of e2) e3 e4
  · exact add_big R hx hu (by omega) few z
end
end Ms
namespace Ms
open PySem PySem.Spec PyProof.Rows L2
/-! ### a set of tuples of ints: the loop that fills it -/
section
variable {P : Program} {w : World} {h h' : Heap} {a b : Addr} {q : List Int} {L : List (Addr × List Int)} {es : Array (Int × Value)} {ep : Nat} {t : SetTable}
theorem SetW.keep (R : SetW P w h a L es ep t) (ha : ∀ o, h.get? a = some o → h'.get? a = some o) (at_ : ∀ p ∈ L, IsT P w h' p.2 p.1) : SetW P w h' a L es ep t := by
  obtain ⟨o, oa, r⟩ := R.ob
  exact ⟨⟨o, ha o oa, r⟩, R.rows, R.tab, R.nd, at_, R.plain, R.led, R.room⟩
theorem setW_new (oa : h.get? a = some { cls := .type "set", dict := none, data := .set #[] 0 (.fresh 0 0 (!w.params.followText "set-order")) }) : SetW P w h a [] #[] 0 (.fresh 0 0 (!w.params.followText "set-order")) where
  ob := ⟨_, oa, ⟨rfl, rfl, rfl⟩, rfl⟩
  rows := rfl
  tab := ⟨.nil, rfl, rfl, .inl rfl, (fun x hx => by cases hx), fun i e j hi => by simp at hi⟩
  nd := .nil
  prs := fun p hp => nomatch hp
  plain := rfl
  led := by
    cases e : w.params.followText "set-order"
    · exact .inr rfl
    · exact .inl rfl
  room := (by decide : 0 * 5 < 7 * 3)
end
theorem few_more {P : Program} {w : World} {h : Heap} {a : Addr} {ks L : List (Addr × List Int)} {es : Array (Int × Value)} {ep i : Nat} {t : SetTable} {p : Addr × List Int} (few : ∀ zs : List (List Int), zs.Nodup → (∀ z ∈ zs, z ∈ ks.map (·.2)) → zs.length ≤ 76) (R : SetW P w h a L es ep t) (g : Got ks i L) (gone : p.2 ∉ L.map (·.2)) (hp : ks[i]? = some p) : L.length + 1 ≤ 76 := by
  have e := few (p.2 :: L.map (·.2)) (List.nodup_cons.mpr ⟨gone, R.nd⟩) (fun z hz => by
    rcases List.mem_cons.mp hz with rfl | hz
    · exact List.mem_map.mpr ⟨p, List.mem_of_getElem? hp, rfl⟩
    · obtain ⟨r, hr, rfl⟩ := List.mem_map.mp hz
      exact List.mem_map.mpr ⟨r, List.mem_of_mem_take (g.sub r hr), rfl⟩)
  rwa [List.length_cons, List.length_map] at e
/-! ### a small set of tuples of ints: the loop that fills it -/
section
variable {P : Program} {w : World} {A : Around}
theorem fill_w {I : Addr} {fp wr : List Addr} {G : Array GenState → Array GenState → Prop} {n : Nat} {Pv : Nat → Value → Prop} {St : Nat → Shared → Prop} {R : Result → Shared → Prop}
    (Wk : WalksS P w A.in1 I fp wr G n Pv St) (T : Addr) (notT : T ∉ fp) (ks : List (Addr × List Int)) (nk : n = ks.length) (few : ∀ zs : List (List Int), zs.Nodup → (∀ z ∈ zs, z ∈ ks.map (·.2)) → zs.length ≤ 76) (val : ∀ i v, Pv i v → ∃ p, ks[i]? = some p ∧ v = .ref p.1)
    (h0 : Heap) (at0 : ∀ p ∈ ks, IsT P w h0 p.2 p.1) (T0 : h0.get? T = none) (wr0 : ∀ b ∈ wr, h0.get? b = none) (hu : A.in1.units + 8 < cLine) :
    ∀ (left i : Nat) (s : Shared), n - i = left → i ≤ n → St i s → (∀ b o, h0.get? b = some o → s.heap.get? b = some o) → (∃ L es ep t, SetW P w s.heap T L es ep t ∧ Got ks i L) →
      (∀ s' L es ep t, Moved (T :: wr) G s s' → SetW P w s'.heap T L es ep t → Got ks n L → (∀ b o, h0.get? b = some o → s'.heap.get? b = some o) → R (.ok (.ret .none)) s') →
      codeAny (model P w) A (.builtin "set.update.loop" ⟨[.ref T, .ref I], []⟩) R s := by
  have Tw : T ∉ wr := fun m => notT (Wk.sub _ m)
  have more : ∀ b ∈ wr, b ∈ T :: wr := fun b m => List.mem_cons_of_mem _ m
  have stays : ∀ {s s' : Shared}, Moved wr G s s' → (∀ b o, h0.get? b = some o → s.heap.get? b = some o) → ∀ b o, h0.get? b = some o → s'.heap.get? b = some o :=
    fun mv k b o e => mv.heap b o (fun m => by rw [wr0 b m] at e; cases e) (k b o e)
  intro left
  induction left with
  | zero =>
    intro i s hl hi st k ⟨L, es, ep, t, S, g⟩ end_
    obtain rfl : i = n := by omega
    refine codeAny_builtin F.entry_set_update_loop ?_
    rw [Around.under_plainId F.plain_set_update_loop _]
    show wpAny _ A.in1 (pyNext (.ref I) >>= _) _ _ s
    refine wpAny_bind (Wk.done s _ _ st fun s' mv => ?_)
    have k' := stays mv k
    show wpAny _ A.in1 (ret Value.none) _ _ s'
    exact wpAny_pure (end_ s' L es ep t (mv.mono more) (S.keep (fun o e => mv.heap T o Tw e) fun p hp => isT_keep (at0 p (List.mem_of_mem_take (g.sub p hp))) k') g k')
  | succ left ih =>
    intro i s hl hi st k ⟨L, es, ep, t, S, g⟩ end_
    have lt : i < n := by omega
    refine codeAny_builtin F.entry_set_update_loop ?_
    rw [Around.under_plainId F.plain_set_update_loop _]
    show wpAny _ A.in1 (pyNext (.ref I) >>= _) _ _ s
    refine wpAny_bind (Wk.item i s _ _ lt st fun v s' hv st' mv => ?_)
    obtain ⟨p, hp, rfl⟩ := val i v hv
    have k' := stays mv k
    have S' : SetW P w s'.heap T L es ep t := S.keep (fun o e => mv.heap T o Tw e) fun r hr => isT_keep (at0 r (List.mem_of_mem_take (g.sub r hr))) k'
    have px : IsT P w s'.heap p.2 p.1 := isT_keep (at0 p (List.mem_of_getElem? hp)) k'
    show wpAny _ A.in1 (holding [Value.ref p.1] (setAdd T (.ref p.1)) >>= _) _ _ s'
    refine wpAny_bind (wpAny_holding ?_)
    unfold setAdd
    refine wpAny_holding (wpAny_bind (wpAny_pyHash_tuple (by omega) px ?_))
    refine add_w (s := { s' with toks := s'.toks + (p.2.length + 1) }) S' px hu (fun gone => few_more few S' g gone hp) fun b h' L' es' ep' t' sb S2 c1 c2 => ?_
    have g' : Got ks (i + 1) L' := by
      by_cases c : p.2 ∈ L.map (·.2)
      · rw [c1 c]; exact g.same hp c
      · exact g.more hp (c2 c)
    have k2 : ∀ b o, h0.get? b = some o → h'.get? b = some o := fun b o e => (sb.2 b (fun z => by rw [z, T0] at e; cases e)).trans (k' b o e)
    refine wpAny_pure ⟨plainId_quiet F.plain_set_update_loop _, ih (i + 1) _ (by omega) lt (Wk.frame _ s' _ _ st' (Nat.le_add_right _ _) fun b hb o e => ?_) k2 ⟨L', es', ep', t', S2, g'⟩ fun s2 L2 es2 ep2 t2 mv2 S3 g3 k3 => ?_⟩
    · rw [sb.2 b (fun z : b = T => notT (z ▸ hb))]; exact e
    · refine end_ s2 L2 es2 ep2 t2 (Moved.trans Wk.gtrans ((mv.mono more).then_heap (Nat.le_add_right _ _) fun b o hb e => ?_) mv2) S3 g3 k3
      rw [sb.2 b (fun z : b = T => hb (by rw [z]; exact List.mem_cons_self))]; exact e
end
end Ms
namespace Ms
open PySem PySem.Spec PyProof.Rows L2
/-! ### set(xs) of a short list of tuples of ints -/
/-- the set as it is born -/
abbrev newSetW (w : World) : Obj := { cls := .type "set", dict := none, data := .set #[] 0 (.fresh 0 0 (!w.params.followText "set-order")) }
section
variable {P : Program} {w : World} {A : Around} {E : Value → Shared → Prop} {s : Shared}
theorem none_aboveW {h : Heap} {b : Addr} (hb : h.objs.size ≤ b) : h.get? b = none := by
  cases q : h.get? b with
  | none => rfl
  | some o => exact absurd (Nat.lt_of_lt_of_le (Heap.lt_size q) hb) (Nat.lt_irrefl _)
/-- what set(xs) leaves -/
def MadeW (P : Program) (w : World) (s : Shared) (ks : List (Addr × List Int)) (s2 : Shared) : Prop :=
  ∃ h' tk L es ep t, s2 = { s with heap := h', toks := tk } ∧ SetW P w h' s.heap.objs.size L es ep t ∧ Got ks ks.length L ∧ ∀ b o, s.heap.get? b = some o → h'.get? b = some o
theorem call_set_w {l : Addr} {items : Array Value} (ks : List (Addr × List Int)) {Q : Value → Shared → Prop} (hh : A.handled = none) (hl : s.heap.IsList l items) (it : items.toList = ks.map fun p => Value.ref p.1)
    (at_ : ∀ p ∈ ks, IsT P w s.heap p.2 p.1) (few : ∀ zs : List (List Int), zs.Nodup → (∀ z ∈ zs, z ∈ ks.map (·.2)) → zs.length ≤ 76) (hu : A.units + 16 < cLine) (z : ∀ s2, MadeW P w s ks s2 → Q (.ref s.heap.objs.size) s2) :
    wpAny (model P w) A (call (.type "set") [.ref l]) Q E s := by
  have sz : items.size = ks.length := by
    have e := congrArg List.length it
    rwa [Array.length_toList, List.length_map] at e
  obtain ⟨c, tl, mro⟩ := F.called_set.mro
  have made := F.called_set.made
  have sub := F.called_set.sub
  refine wpAny_call (codeAny_of_tree ?_)
  show wpAny _ _ (callAny (.type "set") _) _ _ _
  refine wpAny_pure ⟨Code.quiet_builtin _ (by decide +kernel), codeAny_builtin F.entry_type_call ?_⟩
  rw [Around.under_plain (weight_type_call_type "set" [.ref l] []) rfl]
  have no := F.called_set.notType
  have can := F.called_set.canCreate
  have chk := F.typeCall_set_1 (.ref l)
  repeat (first | assumption | wp_step)
  refine codeAny_mono (code_set_led1 (.ref l) (E := E) (Q₁ := fun v s₁ => v = .ref s.heap.objs.size ∧ s₁ = { s with heap := s.heap.push (newSetW w) }) ⟨rfl, rfl⟩) fun r s1 hr => ?_
  match r, hr with
  | .error e, hr => exact hr
  | .ok (.next), hr => exact hr.elim
  | .ok (.brk), hr => exact hr.elim
  | .ok (.cont), hr => exact hr.elim
  | .ok (.ret v), hr =>
    obtain ⟨rfl, rfl⟩ := hr
    have S : (s.heap.push (newSetW w)).get? s.heap.objs.size = some (newSetW w) := Heap.get?_push_size _ rfl
    have ty : Shared.TypeIs { s with heap := s.heap.push (newSetW w) } (.ref s.heap.objs.size) "set" := ⟨_, S, rfl⟩
    have look := F.called_set.init.lookup
    have bind := F.called_set.init.bind (.ref s.heap.objs.size)
    repeat (first | assumption | wp_step)
    refine codeAny_mono (codeAny_call_builtin (R := wants (fun r s2 => r = .none ∧ MadeW P w s ks s2) E) F.called_set.init.plain F.entry_set_init (check_set_init_1 ty ?_)) fun r2 s2 h2 => ?_
    · have le : l < s.heap.objs.size := let ⟨_, e, _⟩ := hl; Heap.lt_size e
      have hl1 : (s.heap.push (newSetW w)).IsList l items := by
        obtain ⟨o, e, r⟩ := hl
        exact ⟨o, Heap.get?_push_of_some _ e, r⟩
      obtain ⟨⟨ocls, odict, odata, oslots⟩, oe, oc, on, od⟩ := id hl1
      simp only at oc od
      subst oc
      subst od
      have sub1 := F.sub_list_set
      have sub2 := F.sub_list_frozenset
      have neq : (Value.type "list" == Value.type "dict") = false := by decide
      unfold Builtin.«set.__init__» noKeywords Builtin.Frozenset.updateFrom
      generalize eq : pyIter = it1
      wp_walk
      subst eq
      refine wpAny_pyIter_list hl1 (wpAny_bind (wpAny_runValue ?_))
      have h3 : A.in1.in1.in1.handled = none := by simp [hh]
      have psz : (s.heap.push (newSetW w)).objs.size = s.heap.objs.size + 1 := Heap.size_push ..
      have nl : l ≠ (s.heap.push (newSetW w)).objs.size := by
        rw [psz]
        exact Nat.ne_of_lt (Nat.lt_succ_of_lt le)
      have nT : s.heap.objs.size ∉ [(s.heap.push (newSetW w)).objs.size, l] := by
        rw [psz]
        simp only [List.mem_cons, List.mem_singleton, List.not_mem_nil, or_false, not_or]
        exact ⟨Nat.ne_of_lt (Nat.lt_succ_self _), Nat.ne_of_gt le⟩
      refine fill_w ((Walks.list h3 _ l nl items).toS) s.heap.objs.size nT ks sz few (fun i v hv => ?_) s.heap at_ (none_aboveW (Nat.le_refl _)) (fun b hb => none_aboveW (by rw [List.mem_singleton.mp hb, psz]; exact Nat.le_succ _)) (by show A.units + 1 + 1 + 1 + 8 < cLine; omega)
        (items.size - 0) 0 _ (by omega) (Nat.zero_le _) ⟨⟨_, Heap.get?_push_size _ rfl, rfl, rfl⟩, (hl1.push _)⟩ (fun b o e => Heap.get?_push_of_some _ (Heap.get?_push_of_some _ e)) ⟨[], #[], 0, _, setW_new (Heap.get?_push_of_some _ S), .zero ks⟩ ?_
      · have e : items.toList[i]? = some v := by rw [Array.getElem?_toList]; exact hv
        rw [it, List.getElem?_map] at e
        cases ek : ks[i]? with
        | none => rw [ek] at e; cases e
        | some p =>
          rw [ek] at e
          exact ⟨p, rfl, (Option.some.inj e).symm⟩
      · intro s' L es ep t mv R' g k
        obtain ⟨h', g2, d', tk', os'⟩ := s'
        obtain rfl : g2 = s.gens := mv.gens
        obtain rfl : d' = s.drawn := mv.drawn
        obtain rfl : os' = s.os := mv.os
        rw [sz] at g
        show wpAny _ _ _ _ _ _
        refine wpAny_pure ?_
        show wpAny _ _ (ret Value.none) _ _ _
        exact wpAny_pure ⟨rfl, h', tk', L, es, ep, t, rfl, R', g, k⟩
    · match r2, h2 with
      | .error e, h2 => exact h2
      | .ok (.next), h2 => exact h2.elim
      | .ok (.brk), h2 => exact h2.elim
      | .ok (.cont), h2 => exact h2.elim
      | .ok (.ret v), h2 =>
        obtain ⟨rfl, m⟩ := h2
        repeat (first | assumption | wp_step)
        exact z _ m
end
end Ms
namespace Ms
open PySem PySem.Spec PyProof.Rows L2
abbrev encW (p : Addr × List Int) : PyData := .tuple (p.2.map PyData.int)
theorem alikeW_ints : ∀ xs ys : List Int, PySem.W.alikeAll (xs.map .int) (ys.map .int) = true
  | [], _ => by cases ‹List Int› <;> rfl
  | _ :: _, [] => rfl
  | _ :: xs, _ :: ys => alikeW_ints xs ys
theorem alikeW (p q : Addr × List Int) : PySem.W.alike (encW p) (encW q) = true := alikeW_ints p.2 q.2
theorem depthW_ints : ∀ ns : List Int, PyData.depthAll (ns.map PyData.int) = 0
  | [] => rfl
  | n :: ns => by
    show max (PyData.depth (.int n)) (PyData.depthAll (ns.map PyData.int)) = 0
    rw [depthW_ints ns]; rfl
theorem sortableW {L1 : List (Addr × List Int)} (ne : ∀ p ∈ L1, p.2 ≠ []) : PySem.W.Sortable (L1.map encW) := .inl fun d hd => by
  obtain ⟨p, hp, rfl⟩ := List.mem_map.mp hd
  have n1 := ne p hp
  cases e : p.2 with
  | nil => exact absurd e n1
  | cons x r => exact ⟨.int x, r.map .int, by show PyData.tuple (p.2.map PyData.int) = _; rw [e]; rfl⟩
theorem depthW (p : Addr × List Int) : (encW p).depth ≤ 2 := by
  show PyData.depthAll (p.2.map .int) + 1 ≤ 2
  rw [depthW_ints]; decide
section
variable {P : Program} {w : World} {A : Around} {E : Value → Shared → Prop} {s : Shared}
theorem SetW.le {h : Heap} {a : Addr} {L : List (Addr × List Int)} {es : Array (Int × Value)} {ep : Nat} {t : SetTable} (R : SetW P w h a L es ep t) : L.length ≤ 76 := by
  have rm := R.room
  have mk := R.tab.mok
  unfold MaskOk at mk
  omega
theorem reads_rowW {h : Heap} {b : Addr} {r : List Int} (hk : IsT P w h r b) : Reads h (.ref b) (PyData.tuple (r.map PyData.int)) [] := by
  obtain ⟨o, items, n, ho, hc, hd, hi⟩ := hk
  have key : ∀ {k : List Int} {vs : List Value}, ItemsAre (intKind P w) k vs → ReadsAll h vs (k.map PyData.int) [] := by
    intro k vs hi
    induction hi with
    | nil => exact .nil
    | @cons k0 v ks vs h1 _ ih =>
      obtain ⟨t, e⟩ := Value.isInt_shape h1
      subst e
      exact .cons (.int k0 t) ih
  exact .tuple ho hc hd (key hi)
end
/-! ### sorted(set) of tuples of ints: the call -/
section
variable {P : Program} {w : World} {A : Around} {E : Value → Shared → Prop} {s : Shared} {a : Addr} {L : List (Addr × List Int)} {es : Array (Int × Value)} {ep : Nat} {t : SetTable}
theorem refsW_in : ∀ {vs : List Value}, (∀ v ∈ vs, ∃ p ∈ L, v = Value.ref p.1) → ∃ L1 : List (Addr × List Int), vs = L1.map (fun p => Value.ref p.1) ∧ ∀ p ∈ L1, p ∈ L
  | [], _ => ⟨[], rfl, fun p hp => nomatch hp⟩
  | v :: vs, h => by
    obtain ⟨p, hp, e⟩ := h v List.mem_cons_self
    obtain ⟨L1, e1, h1⟩ := refsW_in fun u hu => h u (List.mem_cons_of_mem _ hu)
    refine ⟨p :: L1, by rw [List.map_cons, e, e1], fun r hr => ?_⟩
    rcases List.mem_cons.mp hr with rfl | hr
    · exact hp
    · exact h1 r hr
theorem eachW_refs : ∀ L1 : List (Addr × List Int), PySem.W.EachIs (fun v (p : Addr × List Int) => v = Value.ref p.1) (L1.map fun p => Value.ref p.1) L1
  | [] => .nil
  | p :: L1 => .cons rfl (eachW_refs L1)
theorem refsW_each : ∀ {out : List Value} {L1 : List (Addr × List Int)}, PySem.W.EachIs (fun v (p : Addr × List Int) => v = Value.ref p.1) out L1 → out = L1.map fun p => Value.ref p.1
  | _, _, .nil => rfl
  | _, _, .cons h r => by rw [h, refsW_each r]; rfl
theorem eachW_reads {h : Heap} {b : Addr} : ∀ {L1 : List (Addr × List Int)}, (∀ p ∈ L1, IsT P w h p.2 p.1) → PySem.W.EachIs (fun v p => ∃ as, Reads h v (encW p) as ∧ b ∉ as) (L1.map fun p => Value.ref p.1) L1
  | [], _ => .nil
  | p :: L1, k => .cons ⟨[], reads_rowW (k p List.mem_cons_self), fun z => nomatch z⟩ (eachW_reads fun q hq => k q (List.mem_cons_of_mem _ hq))
/-- L1 is L in some order -/
theorem permW_refs (R : SetW P w s.heap a L es ep t) {L1 : List (Addr × List Int)} (sub : ∀ p ∈ L1, p ∈ L) (pm : (L1.map fun p => Value.ref p.1).Perm (L.map fun p => Value.ref p.1)) : L1.Perm L := by
  have one : ∀ p ∈ L, ∀ q ∈ L, p.1 = q.1 → p = q := fun p hp q hq e => by
    have a1 := R.prs p hp
    have a2 := R.prs q hq
    rw [e] at a1
    exact Prod.ext e (a1.inj a2)
  have nL : L.Nodup := nodup_of_map R.nd
  have nr : (L.map fun p => Value.ref p.1).Nodup := by
    refine List.pairwise_map.mpr (nL.imp_of_mem fun {p q} hp hq ne e => ?_)
    injection e with e
    exact ne (one p hp q hq e)
  refine (List.perm_ext_iff_of_nodup (nodup_of_map (pm.nodup_iff.mpr nr)) nL).mpr fun p => ⟨sub p, fun hp => ?_⟩
  obtain ⟨q, hq, e⟩ := List.mem_map.mp (pm.mem_iff.mpr (List.mem_map.mpr ⟨p, hp, rfl⟩))
  injection e with e
  rw [← one q (sub q hq) p hp e]
  exact hq
theorem sorted_w (R : SetW P w s.heap a L es ep t) (hh : A.handled = none) (hu : A.units + 16 < cLine) (ne : ∀ p ∈ L, p.2 ≠ []) {Q : Value → Shared → Prop}
    (z : ∀ s' p (out : Array Value) (c : Nat) (L1 : List (Addr × List Int)), (∀ b o, s.heap.get? b = some o → s'.heap.get? b = some o) → s'.gens = s.gens → s'.os = s.os → s.heap.objs.size ≤ p →
      s'.heap.get? p = some (seqObj "list" out c) → L1.Perm L → out.toList = (L1.mergeSort (PySem.W.dataLe false encW)).map (fun p => Value.ref p.1) → Q (.ref p) s') :
    wpAny (model P w) A (call (.builtin "sorted") [.ref a]) Q E s := by
  obtain ⟨o, oa, oe, od⟩ := R.ob
  have few := R.le
  refine Calls.call_function_entry kind_sorted plain_sorted entry_sorted (args_sorted1 _) ?_
  unfold Builtin.«sorted»
  refine wpAny_bind (m := checkCount "sorted" 1 1 _) (wpAny_pure ?_)
  refine wpAny_bind (collect_set (A := A.in1) hh ⟨o, oa, oe.1, od⟩ R.fits (by have := R.sz; unfold scanBound; omega) R.tab.ris R.led fun s1 vs k1 sz1 g1 o1 pm => ?_)
  have items : es.toList.map (·.2) = L.map fun p => Value.ref p.1 := by
    rw [R.rows, List.map_map]
    rfl
  rw [items] at pm
  obtain ⟨L1, rfl, sub⟩ := refsW_in (L := L) (vs := vs) fun v hv => by
    obtain ⟨p, hp, e⟩ := List.mem_map.mp (pm.mem_iff.mp hv)
    exact ⟨p, hp, e.symm⟩
  have pL := permW_refs R sub pm
  have l1 : L1.length ≤ 76 := by rw [pL.length_eq]; exact few
  refine wpAny_bind (wpAny_newList ?_ (by rw [sizeLine_eq, List.length_map]; omega))
  have lo : (s1.heap.push (seqObj "list" (L1.map fun p => Value.ref p.1).toArray 0)).get? s1.heap.objs.size = some (seqObj "list" (L1.map fun p => Value.ref p.1).toArray 0) := Heap.get?_push_size _ rfl
  refine wpAny_bind (wpAny_holding (PySem.W.list_sort_data (s := { s1 with heap := s1.heap.push (seqObj "list" (L1.map fun p => Value.ref p.1).toArray 0) }) (bs := L1) (enc := encW) lo (eachW_refs L1)
    (eachW_reads (P := P) (w := w) fun p hp => isT_keep (R.prs p (sub p hp)) fun b u e => Heap.get?_push_of_some _ (k1 b u e)) (PySem.W.AllAlike.of alikeW) (sortableW fun p hp => ne p (sub p hp)) (by rw [sizeLine_eq]; omega)
    (fun p _ => by
      have := depthW p
      show A.units + 1 + 1 + _ < cLine
      omega) fun out _ eo => ?_))
  obtain ⟨c, hc⟩ := sortedHeap_at (vs := (L1.map fun p => Value.ref p.1)) (out := out.toArray) lo
  refine wpAny_pure ⟨_, rfl, z _ s1.heap.objs.size out.toArray c L1 (fun b u e => ?_) g1 o1 sz1 hc pL (by simpa using refsW_each eo)⟩
  have q := k1 b u e
  have lt := Heap.lt_size q
  show (sortedHeap (s1.heap.push (seqObj "list" (L1.map fun p => Value.ref p.1).toArray 0)) s1.heap.objs.size (L1.map fun p => Value.ref p.1) out.toArray).get? b = some u
  rw [sortedHeap_old (Nat.ne_of_lt lt) (by rw [size_push']; exact Nat.lt_succ_of_lt lt)]
  exact Heap.get?_push_of_some _ q
end
/-! ### set(xs) of pairs, as the layer tells it -/
/-- the set at a, without its pairs -/
structure SetW0 (P : Program) (w : World) (h : Heap) (a : Addr) (L : List (Addr × List Int)) : Prop where
  ex : ∃ (es : Array (Int × Value)) (ep : Nat) (t : SetTable), (∃ o, h.get? a = some o ∧ o.ExactSet ∧ o.data = .set es ep t) ∧ es.toList = (L.map fun p => (thash P w p.2, Value.ref p.1)) ∧ TabOk t (L.map fun p => thash P w p.2) ∧ (L.map (·.2)).Nodup ∧ t.plain = true ∧
    (w.params.followText "set-order" = true ∨ t.led = true) ∧ L.length * 5 < t.mask * 3
def SetWO (P : Program) (w : World) (a : Addr) (L : List (Addr × List Int)) : HO := .ext fun h => SetW0 P w h a L
section
variable {P : Program} {w : World} {h : Heap} {a : Addr} {L : List (Addr × List Int)} {es : Array (Int × Value)} {ep : Nat} {t : SetTable}
theorem SetW.w0 (R : SetW P w h a L es ep t) : SetW0 P w h a L := ⟨es, ep, t, R.ob, R.rows, R.tab, R.nd, R.plain, R.led, R.room⟩
theorem SetW0.full (R : SetW0 P w h a L) (at_ : ∀ p ∈ L, IsT P w h p.2 p.1) : ∃ es ep t, SetW P w h a L es ep t := by
  obtain ⟨es, ep, t, a1, a2, a3, a4, a5, a6, a7⟩ := R.ex
  exact ⟨es, ep, t, a1, a2, a3, a4, at_, a5, a6, a7⟩
theorem setWO_new {H : Hp} (R : SetW0 P w h a L) : ObjOk P w H h a (SetWO P w a L) := by
  obtain ⟨es, ep, t, ⟨o, oa, _⟩, _⟩ := R.ex
  refine ⟨R, ⟨o, oa⟩, fun h1 h2 p k => ?_⟩
  obtain ⟨es2, ep2, t2, ⟨o2, oa2, r2⟩, q2⟩ := SetW0.ex p
  exact ⟨es2, ep2, t2, ⟨o2, k o2 oa2, r2⟩, q2⟩
end
section
variable {X : Cx}
/-- set(xs), xs a list of tuples of ints, at most 76 different ones -/
def rSetOfW (K : PySem.W.Frag) (P : Program) (w : World) : List V → Hp → VK → Prop := fun xs H Q => ∃ (l : Addr) (ks : List (Addr × List Int)), xs = [V.ref l] ∧ SqL K H l (ks.map fun p => V.ref p.1) ∧ (∀ p ∈ ks, SqT K H p.1 (p.2.map V.int)) ∧ (∀ zs : List (List Int), zs.Nodup → (∀ z ∈ zs, z ∈ ks.map (·.2)) → zs.length ≤ 76) ∧
  ∀ a L, H a = none → (∀ p ∈ L, p ∈ ks) → (∀ p ∈ ks, p.2 ∈ L.map (·.2)) → Q (.ref a) (upd H a (SetWO P w a L))
theorem cr_setOfW (hc : X.calm = true) (hu : X.A.units + 64 < cLine) : CallR X (.type "set") (rSetOfW X.K X.prog X.w) := by
  intro pins s σ H xs us Q I r h
  obtain ⟨l, ks, rfl, hl, hk, few, q⟩ := h
  rw [Vals.ref1 r]
  obtain ⟨its, rv, pl, _⟩ := I.list hl
  have refs : ∀ {zs : List (Addr × List Int)} {vs : List Value}, Vals (zs.map fun p => V.ref p.1) vs → vs = zs.map fun p => Value.ref p.1 := by
    intro zs
    induction zs with
    | nil => intro vs r; cases r; rfl
    | cons p zs ih =>
      intro vs r
      cases r with
      | cons r1 r2 =>
        cases r1
        rw [ih r2]; rfl
  refine call_set_w (P := X.prog) (w := X.w) ks (I.ok.hd hc) pl.isList (by simpa using refs rv) (fun p hp => I.isT (hk p hp)) few (by omega) fun s2 m => ?_
  obtain ⟨h', tk, L, es, ep, t, rfl, R, g, k⟩ := m
  refine ⟨.ref s.heap.objs.size, upd H s.heap.objs.size (SetWO X.prog X.w s.heap.objs.size L), I.laid (t' := tk) k (Nat.le_refl _) (setWO_new R.w0), rfl, q _ L (I.hok.fresh (Nat.le_refl _)) (fun p hp => ?_) fun p hp => ?_⟩
  · exact List.mem_of_mem_take (g.sub p hp)
  · exact g.all p (by rw [List.take_length]; exact hp)
end
/-! ### sorted(set) of pairs, as the layer tells it -/
/-- the pairs of the set in their order -/
abbrev sortW (L : List (Addr × List Int)) : List (Addr × List Int) := L.mergeSort (PySem.W.dataLe false encW)
section
variable {X : Cx}
def rSortedW (K : PySem.W.Frag) (P : Program) (w : World) : List V → Hp → VK → Prop := fun vs H Q => ∃ (a : Addr) (L : List (Addr × List Int)), vs = [V.ref a] ∧ H a = some (SetWO P w a L) ∧ (∀ p ∈ L, SqT K H p.1 (p.2.map V.int)) ∧ (∀ p ∈ L, p.2 ≠ []) ∧
  ∀ (L1 : List (Addr × List Int)) (p : Addr), L1.Perm L → (L1.map (·.2)).Nodup → L1.length ≤ 76 → H p = none → Q (.ref p) (upd H p (.lst ((sortW L1).map fun q => V.ref q.1)))
theorem cr_sortedW (hc : X.calm = true) (hu : X.A.units + 64 < cLine) : CallR X (.builtin "sorted") (rSortedW X.K X.prog X.w) := by
  intro pins s σ H vs us Q I r h
  obtain ⟨a, L, rfl, ha, hk, ne, q⟩ := h
  obtain ⟨es, ep, t, R⟩ := SetW0.full (show SetW0 X.prog X.w s.heap a L from (I.hok a _ ha).1) fun p hp => L2.Inv.isT I (hk p hp)
  rw [Vals.ref1 r]
  refine sorted_w R (I.ok.hd hc) (by omega) ne fun s' p out c L1 k g o hp hg pm eo => ?_
  have few : L1.length ≤ 76 := by rw [pm.length_eq]; exact R.le
  have nd : (L1.map (·.2)).Nodup := (pm.map (·.2)).nodup_iff.mpr R.nd
  have hn : H p = none := I.hok.fresh hp
  have refs : ∀ zs : List (Addr × List Int), Vals (zs.map fun p => V.ref p.1) (zs.map fun p => Value.ref p.1) := by
    intro zs
    induction zs with
    | nil => exact .nil
    | cons p zs ih => exact .cons rfl ih
  have hv : Vals ((sortW L1).map fun q => V.ref q.1) out.toList := by rw [eo]; exact refs _
  have hlen : ((sortW L1).map fun q => V.ref q.1).length ≤ sizeLine := by rw [List.length_map, List.length_mergeSort, sizeLine_eq]; omega
  have J : L2.Inv X pins σ (upd H p (.lst ((sortW L1).map fun q => V.ref q.1))) { s with heap := s'.heap, gens := s'.gens, drawn := s'.drawn, toks := s'.toks } :=
    I.call (ch := []) (Un.laid k hp hn) (I.hok.laid k hp ⟨hlen, out.toList, c, hv, hg⟩) (by rw [g]; exact I.bare) (fun _ z => nomatch z)
  have e : s' = { s with heap := s'.heap, gens := s'.gens, drawn := s'.drawn, toks := s'.toks } := by
    cases s'
    cases s
    cases o
    rfl
  rw [e]
  exact ⟨.ref p, _, J, rfl, q L1 p pm nd few hn⟩
end
end Ms
namespace Ms
open PySem PySem.Spec PyProof.Rows L2
/-! ### later_groups of the package -/
def numN (rs : List (List Int)) (ks : List Nat) (r : List Int) : Nat := ks.getD (rs.idxOf r) 0
def wayN (rs : List (List Int)) (ks : List Nat) (e : List Int × List Int) : List Int := [((numN rs ks e.1 : Nat) : Int), ((numN rs ks e.2 : Nat) : Int)]
theorem num_at {rs : List (List Int)} {ks : List Nat} {r : List Int} (nd : rs.Nodup) (l : ks.length = rs.length) (h : r ∈ rs) : valV (rowTab rs (natV ks)) (rowK r) = some (.int ((numN rs ks r : Nat) : Int)) := by
  have lt := List.idxOf_lt_length_of_mem h
  refine rowTab_at nd (idx_at h) ?_
  unfold numN
  rw [List.getElem?_map, List.getD_eq_getElem?_getD, List.getElem?_eq_getElem (by omega)]; rfl
/-- lists of ints, at these addresses, the k-th one as R k says -/
def ListsAt (H : Hp) (R : Nat → List Nat → Prop) (gs : List Addr) : Prop := ∀ (k : Nat) g, gs[k]? = some g → ∃ bs, H g = some (.lst (natV bs)) ∧ R k bs
theorem ListsAt.same {H H' : Hp} {R : Nat → List Nat → Prop} {gs : List Addr} (k : ∀ a bs, H a = some (.lst (natV bs)) → a ∈ gs → H' a = some (.lst (natV bs))) (h : ListsAt H R gs) : ListsAt H' R gs := fun i g hg => by
  obtain ⟨bs, h1, h2⟩ := h i g hg
  exact ⟨bs, k _ _ h1 (List.mem_of_getElem? hg), h2⟩
theorem ListsAt.snoc {H : Hp} {R : Nat → List Nat → Prop} {gs : List Addr} {g : Addr} {bs : List Nat} (h : ListsAt H R gs) (h1 : H g = some (.lst (natV bs))) (h2 : R gs.length bs) : ListsAt H R (gs ++ [g]) := fun i g' hg => by
  rcases Nat.lt_trichotomy i gs.length with lt | eq | gt
  · rw [List.getElem?_append_left lt] at hg
    exact h i g' hg
  · subst eq
    rw [List.getElem?_append_right (Nat.le_refl _), Nat.sub_self] at hg
    obtain rfl : g = g' := Option.some.inj hg
    exact ⟨bs, h1, h2⟩
  · rw [List.getElem?_eq_none (by rw [List.length_append]; simp; omega)] at hg
    cases hg
theorem refs_nat {gs : List Addr} {bs : List Nat} {a : Addr} (h : a ∈ gs) (e : HO.lst (gs.map V.ref) = HO.lst (natV bs)) : False := by
  injection e with e
  cases gs with
  | nil => exact nomatch h
  | cons g gs =>
    cases bs with
    | nil => cases e
    | cons b bs => injection e with e _; cases e
def LaterR (rs : List (List Int)) (ks : List Nat) (es : List (List Int × List Int)) (k : Nat) (bs : List Nat) : Prop := ∀ b, b ∈ bs ↔ (b ≠ k ∧ [((k : Nat) : Int), ((b : Nat) : Int)] ∈ es.map (wayN rs ks))
section
variable {P : Program} {w : World} {K : PySem.W.Frag} {mg : Str → Option Value} {base : Heap}
abbrev NLt : List Str := ["many", "numbers", "switches", "ways", "first", "second", "number"]
theorem scLt : FnScope NLt ["many", "numbers", "switches"] (defScope sLater) := ⟨rfl, rfl, rfl, by decide +kernel, rfl, by decide +kernel, by decide +kernel⟩
def spLater (K : PySem.W.Frag) : Sp := fun vs H Q _ => ∃ (m : Nat) (D sw : Addr) (rs : List (List Int)) (ks : List Nat) (ws : List V) (es : List (List Int × List Int)), vs = [.int (m : Nat), .ref D, .ref sw] ∧ m ≤ 900 ∧ H D = some (.dT (rowTab rs (natV ks))) ∧ rs.Nodup ∧ ks.length = rs.length ∧ SqT K H sw ws ∧ Prq K H ws es ∧ SwOk rs es ∧
  (∀ zs : List (List Int), zs.Nodup → (∀ z ∈ zs, z ∈ es.map (wayN rs ks)) → zs.length ≤ 76) ∧
  ∀ G gs H', H G = none → Same H H' → H' G = some (.lst (gs.map V.ref)) → gs.length = m → ListsAt H' (LaterR rs ks es) gs → Q (.ref G) H'
theorem ok_later {f : Addr} {fd : FuncData} (F : Fun K "later_groups" "later_groups" sLater f fd) (T : TxtG mg) : FnOk P w K mg base CX0 1 f fd ["many", "numbers", "switches"] (spLater K) := by
  refine F.ok scLt (fun vs H Q E h => ?_) (fun cdv A outer s H vs Q E hr h => ?_)
  · obtain ⟨m, D, sw, rs, ks, ws, es, rfl, _⟩ := h
    rfl
  obtain ⟨m, D, sw, rs, ks, ws, es, rfl, m9, hD, nd, lk, hsw, pq, ok, few, q⟩ := h
  have lw := pq.len
  have hu := hu_of hr
  refine ⟨_, pss_cons (ps_set (i := 3) scLt.nd rfl (Or.inr rfl) (pe_callB (show CallR _ (.builtin "sorted") (rSortedW K P w) from by exact cr_sortedW (by rfl) (by exact hr.units)) (by rfl) T.sorted (by decide +kernel) (pa_cons
      (pe_callTy (show CallR _ (.type "set") (rSetOfW K P w) from by exact cr_setOfW (by rfl) (by exact hr.units)) (by rfl) T.set (by decide +kernel) (pa_cons
        (pe_lc (own := [("first", 4), ("second", 5)]) (g := gTup K 2 (gCons (gName 4) (gCons (gName 5) gNil))) (by rfl) scLt.nd (pi_tup (pv 2)) (blkOk_by (own := [("first", 4), ("second", 5)]) (N := NLt) (sc := defScope sLater) (by decide +kernel))
          (fun _ _ _ _ _ => pg_tup rfl (pgs_cons (pg_name (i := 4) scLt.nd rfl (by first | exact Or.inl rfl | exact Or.inr rfl)) (pgs_cons (pg_name (i := 5) scLt.nd rfl (by first | exact Or.inl rfl | exact Or.inr rfl)) pgs_nil))) (fun _ _ _ _ _ => pts_nil)
          (fun _ _ _ _ _ => pe_tup (pa_cons (pe_dgetK K hu (pv 1) (pv 4) (fun _ _ => rfl)) (pa_cons (pe_dgetK K hu (pv 1) (pv 5) (fun _ _ => rfl)) pa_nil)))) pa_nil)) pa_nil)))
    (pss_one (ps_ret (pe_lc (own := [("number", 6)]) (g := gName 6) (by rfl) scLt.nd (pi_range1 (by rfl) T.range (pa_cons (pv 0) pa_nil)) (blkOk_by (own := [("number", 6)]) (N := NLt) (sc := defScope sLater) (by decide +kernel))
      (fun _ _ _ _ _ => pg_name (i := 6) scLt.nd rfl (by first | exact Or.inl rfl | exact Or.inr rfl)) (fun _ _ _ _ _ => pts_nil)
      (fun _ _ _ _ _ => pe_lc (own := [("first", 4), ("second", 5)]) (g := gTup K 2 (gCons (gName 4) (gCons (gName 5) gNil))) (wi := iList K (tVar 3)) (by rfl) scLt.nd (pi_list (pv 3)) (BlkOk.rel (blkOk_by (own := [("first", 4), ("second", 5)]) (N := NLt) (by decide +kernel)))
        (fun _ _ _ _ _ => pg_tup rfl (pgs_cons (pg_name (i := 4) scLt.nd rfl (by first | exact Or.inl rfl | exact Or.inr rfl)) (pgs_cons (pg_name (i := 5) scLt.nd rfl (by first | exact Or.inl rfl | exact Or.inr rfl)) pgs_nil)))
        (fun _ _ _ _ _ => pts_one (PW.pt (pw_and (pt_cmpR op_eq (pv 4) (pv 6) (nomark _)) (pw_and1 (pt_cmpR op_ne (pv 5) (pv 6) (nomark _)))))) (fun _ _ _ _ _ => pv 5))))), ?_⟩
  refine ⟨_, rfl, sw, rfl, ⟨_, hsw⟩, fun D3 hD3 => ?_⟩
  refine lc_it (walk_tup (xs := ws)) (fun j H3 => Same H H3 ∧ ∃ zs : List (Addr × List Int), H3 D3 = some (.lst (zs.map fun p => V.ref p.1)) ∧ (∀ p ∈ zs, H3 p.1 = some (.tup (p.2.map V.int))) ∧ zs.map (·.2) = (es.take j).map (wayN rs ks))
    ⟨Same.upd hD3, [], upd_same, (fun p hp => nomatch hp), rfl⟩ (fun j H3 _ ⟨s3, _⟩ => Same.seqT s3 hsw) ?_ ?_
  · rintro j y H3 H4 hj ⟨s3, zs, g3, at3, e3⟩ ⟨eH, hy⟩
    have eH := eH.symm
    subst eH
    have hy : ws[j]? = some y := hy
    obtain ⟨e, a1, b1, b2, he, rfl, h1, h2, h3⟩ := (pq.same s3).get hy
    have em := List.mem_of_getElem? he
    have lz : zs.length ≤ es.length := by
      have := congrArg List.length e3
      rw [List.length_map, List.length_map, List.length_take] at this
      omega
    refine ⟨a1, _, rfl, h1, rfl, _, _, rfl, _, _, rfl, rfl, rfl, tyes ?_⟩
    refine ⟨_, rfl, _, rfl, D, _, rowK e.1, b1, _, rfl, .inl (s3 _ _ hD), rfl, by rw [rowK_V]; exact h2, num_at nd lk (ok.fst e em), ?_⟩
    refine ⟨_, rfl, _, rfl, D, _, rowK e.2, b2, _, rfl, .inl (s3 _ _ hD), rfl, by rw [rowK_V]; exact h3, num_at nd lk (ok.snd e em), ?_⟩
    refine ⟨(by show 2 ≤ sizeLine; decide), fun t ht => ?_⟩
    have sT : Same H3 (upd H3 t (.tup [.int ((numN rs ks e.1 : Nat) : Int), .int ((numN rs ks e.2 : Nat) : Int)])) := Same.upd ht
    have gT : (upd H3 t (.tup [.int ((numN rs ks e.1 : Nat) : Int), .int ((numN rs ks e.2 : Nat) : Int)])) t = some (.tup ((wayN rs ks e).map V.int)) := upd_same
    generalize upd H3 t (.tup [.int ((numN rs ks e.1 : Nat) : Int), .int ((numN rs ks e.2 : Nat) : Int)]) = H5 at sT gT ⊢
    have g5 := sT _ _ g3
    have ntD : t ≠ D3 := fun z => by rw [z, g5] at gT; cases gT
    refine ⟨_, g5, ?_, fun c o hc => ?_, zs ++ [(t, wayN rs ks e)], ?_, fun p hp => ?_, ?_⟩
    · rw [List.length_map]
      have := ok.few
      rw [sizeLine_eq]; omega
    · rw [upd_ne (ne_of_none hc hD3)]; exact sT _ _ (s3 c o hc)
    · rw [upd_same, List.map_append]; rfl
    · rcases List.mem_append.mp hp with hp | hp
      · have h9 := sT _ _ (at3 p hp)
        rw [upd_ne (fun z => by rw [z, g5] at h9; cases h9)]; exact h9
      · rw [List.mem_singleton.mp hp, upd_ne ntD]; exact gT
    · rw [List.map_append, e3, List.take_succ, he, List.map_append]; rfl
  · rintro H3 ⟨s3, zs, g3, at3, e3⟩
    rw [List.take_of_length_le (by omega)] at e3
    have mem3 : ∀ {z}, z ∈ zs.map (·.2) ↔ z ∈ es.map (wayN rs ks) := fun {z} => by rw [e3]
    refine ⟨D3, zs, rfl, SqL.of g3, fun p hp => .inl (.inl (at3 p hp)), fun ys n1 n2 => few ys n1 fun z hz => mem3.mp (n2 z hz), fun a L ha sub all => ?_⟩
    have sA : Same H3 (upd H3 a (SetWO P w a L)) := Same.upd ha
    have gA : (upd H3 a (SetWO P w a L)) a = some (SetWO P w a L) := upd_same
    generalize upd H3 a (SetWO P w a L) = H4 at sA gA ⊢
    have way2 : ∀ p ∈ L, ∃ x y : Nat, p.2 = [((x : Nat) : Int), ((y : Nat) : Int)] := fun p hp => by
      obtain ⟨e, _, ee⟩ := List.mem_map.mp (mem3.mp (List.mem_map.mpr ⟨p, sub p hp, rfl⟩))
      exact ⟨_, _, ee.symm⟩
    refine ⟨a, L, rfl, gA, fun p hp => .inl (.inl (sA _ _ (at3 p (sub p hp)))), fun p hp => (by obtain ⟨x, y, e⟩ := way2 p hp; rw [e]; exact fun z => nomatch z), fun L1 W pm n1 l76 hW => ?_⟩
    have sW : Same H4 (upd H4 W (.lst ((sortW L1).map fun q => V.ref q.1))) := Same.upd hW
    have gW : (upd H4 W (.lst ((sortW L1).map fun q => V.ref q.1))) W = some (.lst ((sortW L1).map fun q => V.ref q.1)) := upd_same
    generalize upd H4 W (.lst ((sortW L1).map fun q => V.ref q.1)) = H5 at sW gW ⊢
    have pm2 : (sortW L1).Perm L := (List.mergeSort_perm ..).trans pm
    have l2 : (sortW L1).length ≤ 76 := by rw [pm2.length_eq, ← pm.length_eq]; exact l76
    have at5 : ∀ p ∈ sortW L1, H5 p.1 = some (.tup (p.2.map V.int)) := fun p hp => sW _ _ (sA _ _ (at3 p (sub p (pm2.mem_iff.mp hp))))
    have mem5 : ∀ {z}, z ∈ (sortW L1).map (·.2) ↔ z ∈ es.map (wayN rs ks) := fun {z} => by
      refine ⟨fun h => ?_, fun h => ?_⟩
      · obtain ⟨p, hp, rfl⟩ := List.mem_map.mp h
        exact mem3.mp (List.mem_map.mpr ⟨p, sub p (pm2.mem_iff.mp hp), rfl⟩)
      · obtain ⟨p, hp, rfl⟩ := List.mem_map.mp (mem3.mpr h)
        exact (pm2.map (·.2)).mem_iff.mpr (all p hp)
    have two5 : ∀ p ∈ sortW L1, ∃ x y : Nat, p.2 = [((x : Nat) : Int), ((y : Nat) : Int)] := fun p hp => way2 p (pm2.mem_iff.mp hp)
    generalize sortW L1 = ys at gW l2 at5 mem5 two5
    have s5 : Same H H5 := s3.trans (sA.trans sW)
    refine ⟨_, rfl, _, rfl, by omega, by omega, fun G hG => ?_⟩
    refine lc_it walk_range (fun i H6 => Same H5 H6 ∧ ∃ gs : List Addr, H6 G = some (.lst (gs.map V.ref)) ∧ gs.length = i ∧ ListsAt H6 (LaterR rs ks es) gs) ⟨Same.upd hG, [], upd_same, rfl, fun k g hg => by simp at hg⟩ (fun _ _ _ _ => trivial) ?_ ?_
    · rintro i x H6 H7 hi ⟨s6, gs, g6, lg, la⟩ ⟨eH, rfl⟩
      have eH := eH.symm
      subst eH
      have ei : (0 : Int) + (i : Int) = ((i : Nat) : Int) := Int.zero_add _
      show gName 6 (V.int ((0 : Int) + (i : Int))) _ _ _
      rw [ei]
      refine ⟨rfl, tyes ?_⟩
      refine ⟨_, rfl, W, rfl, ⟨_, SqL.of (s6 _ _ gW)⟩, fun E1 hE1 => ?_⟩
      refine lc_it (walk_list (xs := ys.map fun q => V.ref q.1)) (fun j H8 => Same H6 H8 ∧ ∃ bs : List Nat, H8 E1 = some (.lst (natV bs)) ∧ bs.length ≤ j ∧ ∀ b : Nat, b ∈ bs ↔ (b ≠ i ∧ [((i : Nat) : Int), ((b : Nat) : Int)] ∈ (ys.take j).map (·.2)))
        ⟨Same.upd hE1, [], upd_same, Nat.zero_le _, fun b => by simp⟩ (fun j H8 _ ⟨s8, _⟩ => SqL.of (s8 _ _ (s6 _ _ gW))) ?_ ?_
      · rintro j y H8 H9 hj ⟨s8, bs, g8, lb, mb⟩ ⟨eH, hy⟩
        have eH := eH.symm
        subst eH
        have hy : (ys.map fun q => V.ref q.1)[j]? = some y := hy
        rw [List.getElem?_map] at hy
        obtain ⟨p, hp, rfl⟩ := Option.map_eq_some_iff.mp hy
        have pm' := List.mem_of_getElem? hp
        obtain ⟨u, v, ep⟩ := two5 p pm'
        have hpt := s8 _ _ (s6 _ _ (at5 p pm'))
        have tk : (ys.take (j + 1)).map (·.2) = (ys.take j).map (·.2) ++ [p.2] := by rw [List.take_succ, hp, List.map_append]; rfl
        have hj' : j < ys.length := (List.getElem?_eq_some_iff.mp hp).1
        rw [ep] at hpt
        have skip : (u ≠ i ∨ v = i) → (Same H6 H8 ∧ ∃ bs : List Nat, H8 E1 = some (.lst (natV bs)) ∧ bs.length ≤ j + 1 ∧ ∀ b : Nat, b ∈ bs ↔ (b ≠ i ∧ [((i : Nat) : Int), ((b : Nat) : Int)] ∈ (ys.take (j + 1)).map (·.2))) := fun c => by
          refine ⟨s8, bs, g8, by omega, fun b => ?_⟩
          rw [mb b, tk, List.mem_append, List.mem_singleton, ep]
          refine ⟨fun z => ⟨z.1, .inl z.2⟩, fun z => ⟨z.1, z.2.resolve_right fun e => ?_⟩⟩
          injection e with e1 e2
          injection e2 with e2 _
          rcases c with c | c
          · exact c (by omega)
          · exact z.1 (by omega)
        refine ⟨p.1, _, rfl, .inl (.inl hpt), rfl, _, _, rfl, _, _, rfl, rfl, rfl, ?_⟩
        refine ⟨_, rfl, _, rfl, rfl, _, rfl, ?_⟩
        by_cases c1 : u = i
        · refine ifT (decide_eq_true (by rw [c1])) ⟨_, rfl, _, rfl, rfl, _, rfl, ?_⟩
          by_cases c2 : v = i
          · exact ifF (by simp [c2]) (skip (.inr c2))
          · refine ifT (by simp; omega) ⟨_, rfl, _, g8, ?_, fun c o hc => ?_, bs ++ [v], ?_, by rw [List.length_append]; simp; omega, fun b => ?_⟩
            · rw [List.length_map]; exact small1000 (by omega)
            · rw [upd_ne (ne_of_none hc hE1)]; exact s8 c o hc
            · rw [upd_same]
              show some (HO.lst (natV bs ++ _)) = some (HO.lst (natV (bs ++ [v])))
              rw [show natV (bs ++ [v]) = natV bs ++ [V.int ((v : Nat) : Int)] from List.map_append]
            · rw [List.mem_append, List.mem_singleton, mb b, tk, List.mem_append, List.mem_singleton, ep, c1]
              constructor
              · rintro (z | rfl)
                · exact ⟨z.1, .inl z.2⟩
                · exact ⟨c2, .inr rfl⟩
              · rintro ⟨z1, z2 | z2⟩
                · exact .inl ⟨z1, z2⟩
                · injection z2 with _ z2
                  injection z2 with z2 _
                  exact .inr (by omega)
        · exact ifF (by simp; omega) (skip (.inl c1))
      · rintro H8 ⟨s8, bs, g8, lb, mb⟩
        rw [List.length_map, List.take_length] at mb
        have g6' := s8 _ _ g6
        have nE : E1 ≠ G := fun z => by
          rw [z, g6'] at g8
          have hE1 := hE1
          rw [z, g6] at hE1
          cases hE1
        refine ⟨_, g6', small1000 (by rw [List.length_map]; omega), fun c o hc => ?_, gs ++ [E1], ?_, by rw [List.length_append, lg]; rfl, ?_⟩
        · rw [upd_ne (ne_of_none hc hG)]; exact s8 _ _ (s6 c o hc)
        · rw [upd_same, List.map_append]; rfl
        · refine ListsAt.snoc (ListsAt.same (fun a xs h hm => ?_) la) (by rw [upd_ne nE]; exact g8) ?_
          · have h8 := s8 _ _ h
            have na : a ≠ G := fun z => by
              rw [z, g6] at h
              exact refs_nat hm (Option.some.inj h)
            rw [upd_ne na]; exact h8
          · rw [lg]
            intro b
            rw [mb b, mem5]
    · rintro H6 ⟨s6, gs, g6, lg, la⟩
      exact q G gs H6 (Same.free s5 hG) (s5.trans s6) g6 lg la
end
end Ms
namespace Ms
open PySem PySem.Spec PyProof.Rows L2
/-! ### groups: the different ones, how many pairs there are -/
def ddG (l : List Nat) : List Nat := l.foldl (fun acc u => if u ∈ acc then acc else acc ++ [u]) []
theorem ddG_snoc (l : List Nat) (u : Nat) : ddG (l ++ [u]) = if u ∈ ddG l then ddG l else ddG l ++ [u] := by
  unfold ddG
  rw [List.foldl_append]
  rfl
theorem rev_ind {α : Type} {P : List α → Prop} (h0 : P []) (hs : ∀ l x, P l → P (l ++ [x])) : ∀ l, P l := by
  intro l
  have key : ∀ n (l : List α), l.length = n → P l := by
    intro n
    induction n with
    | zero => intro l hl; rw [List.length_eq_zero_iff.mp hl]; exact h0
    | succ n ih =>
      intro l hl
      have ne : l ≠ [] := fun e => by rw [e] at hl; cases hl
      rw [← List.dropLast_concat_getLast ne]
      exact hs _ _ (ih _ (by rw [List.length_dropLast]; omega))
  exact key _ l rfl
theorem ddG_mem (l : List Nat) : ∀ u, u ∈ ddG l ↔ u ∈ l := by
  refine rev_ind (P := fun l => ∀ u, u ∈ ddG l ↔ u ∈ l) (fun u => Iff.rfl) (fun l x ih u => ?_) l
  rw [ddG_snoc, List.mem_append, List.mem_singleton]
  by_cases c : x ∈ ddG l
  · rw [if_pos c, ih u]
    exact ⟨.inl, fun h => h.elim id fun e => by rw [e]; exact (ih x).mp c⟩
  · rw [if_neg c, List.mem_append, List.mem_singleton, ih u]
theorem ddG_nodup (l : List Nat) : (ddG l).Nodup := by
  refine rev_ind (P := fun l => (ddG l).Nodup) List.nodup_nil (fun l x ih => ?_) l
  rw [ddG_snoc]
  by_cases c : x ∈ ddG l
  · rw [if_pos c]; exact ih
  · rw [if_neg c]
    exact List.nodup_append.mpr ⟨ih, by simp, fun a ha b hb e => c (by rw [List.mem_singleton] at hb; rw [← hb, ← e]; exact ha)⟩
theorem ddG_le (l : List Nat) : (ddG l).length ≤ l.length ∧ ((ddG l).length = l.length → l.Nodup) := by
  refine rev_ind (P := fun l => (ddG l).length ≤ l.length ∧ ((ddG l).length = l.length → l.Nodup)) ⟨Nat.le_refl _, fun _ => List.nodup_nil⟩ (fun l x ih => ?_) l
  rw [ddG_snoc, List.length_append, List.length_singleton]
  by_cases c : x ∈ ddG l
  · rw [if_pos c]
    exact ⟨by omega, fun e => by omega⟩
  · rw [if_neg c, List.length_append, List.length_singleton]
    refine ⟨by omega, fun e => ?_⟩
    have nl := ih.2 (by omega)
    exact List.nodup_append.mpr ⟨nl, by simp, fun a ha b hb e => c (by rw [List.mem_singleton] at hb; rw [← hb, ← e]; exact (ddG_mem l a).mpr ha)⟩
theorem natIdx_at {l : List Nat} {u : Nat} (h : u ∈ l) : l[l.idxOf u]? = some u := by
  have lt := List.idxOf_lt_length_of_mem h
  rw [List.getElem?_eq_getElem lt, List.getElem_idxOf lt]
theorem natIdx_inj {l : List Nat} {u v : Nat} (hu : u ∈ l) (hv : v ∈ l) (e : l.idxOf u = l.idxOf v) : u = v := by
  have h1 := natIdx_at hu
  rw [e, natIdx_at hv] at h1
  exact (Option.some.inj h1).symm
section
variable {rs : List (List Int)} {es : List (List Int × List Int)}
theorem nexts_nodup (nd : rs.Nodup) (ok : SwOk rs es) {r : List Int} (h : r ∈ rs) : (rs.idxOf r :: nextsL rs es r).Nodup := by
  refine List.nodup_cons.mpr ⟨fun hm => ?_, ?_⟩
  · obtain ⟨e, he, ee⟩ := List.mem_map.mp hm
    obtain ⟨he, e1⟩ := List.mem_filter.mp he
    have e1 : e.1 = r := of_decide_eq_true e1
    have h2 := idx_at (ok.snd e he)
    rw [ee, idx_at h] at h2
    exact ok.ne e he (e1.trans (Option.some.inj h2))
  · unfold nextsL
    refine List.pairwise_map.mpr (List.Pairwise.imp_of_mem (fun {a b} ha hb ne e => ?_) (ok.nd.filter _))
    obtain ⟨ha, a1⟩ := List.mem_filter.mp ha
    obtain ⟨hb, b1⟩ := List.mem_filter.mp hb
    have a1 : a.1 = r := of_decide_eq_true a1
    have b1 : b.1 = r := of_decide_eq_true b1
    have h2 := idx_at (ok.snd a ha)
    rw [e, idx_at (ok.snd b hb)] at h2
    exact ne (Prod.ext (a1.trans b1.symm) (Option.some.inj h2).symm)
theorem first_bit (nd : rs.Nodup) (ok : SwOk rs es) {e : List Int × List Int} (he : e ∈ es) : ((firstL rs es).getD (rs.idxOf e.1) 0).testBit (rs.idxOf e.2) = true := by
  have hm := ok.fst e he
  have e1 : (firstL rs es).getD (rs.idxOf e.1) 0 = bitsum (rs.idxOf e.1 :: nextsL rs es e.1) := by
    unfold firstL
    rw [List.getD_eq_getElem?_getD, List.getElem?_map, idx_at hm]
    rfl
  rw [e1, bitsum_at (nexts_nodup nd ok hm)]
  refine decide_eq_true (List.mem_cons_of_mem _ (List.mem_map.mpr ⟨e, List.mem_filter.mpr ⟨he, decide_eq_true rfl⟩, rfl⟩))
theorem reached_len : (reachedL rs es).length = rs.length := by
  unfold reachedL
  rw [goAll_len]
  unfold firstL
  rw [List.length_map]
/-- what a switch leads to comes to no more -/
theorem reached_sub (nd : rs.Nodup) (ok : SwOk rs es) {e : List Int × List Int} (he : e ∈ es) {j : Nat} (h : ((reachedL rs es).getD (rs.idxOf e.2) 0).testBit j = true) : ((reachedL rs es).getD (rs.idxOf e.1) 0).testBit j = true :=
  goAll_clo (firstL rs es) rs.length (rs.idxOf e.1) (rs.idxOf e.2) j (List.idxOf_lt_length_of_mem (ok.snd e he)) (goAll_more (firstL rs es) (first_bit nd ok he) rs.length) h
def numsG (us : List Nat) : List Nat := us.map fun u => (ddG us).idxOf u
theorem num_is {us : List Nat} {r : List Int} (l : us.length = rs.length) (h : r ∈ rs) : numN rs (numsG us) r = (ddG us).idxOf (us.getD (rs.idxOf r) 0) ∧ us.getD (rs.idxOf r) 0 ∈ us := by
  have lt := List.idxOf_lt_length_of_mem h
  have e : us[rs.idxOf r]? = some (us.getD (rs.idxOf r) 0) := by
    rw [List.getD_eq_getElem?_getD, List.getElem?_eq_getElem (by omega)]; rfl
  refine ⟨?_, List.mem_of_getElem? e⟩
  unfold numN numsG
  rw [List.getD_eq_getElem?_getD, List.getElem?_map, e]
  rfl
theorem ways_few (nd : rs.Nodup) (ok : SwOk rs es) (l12 : rs.length ≤ 12) {zs : List (List Int)} (hz : zs.Nodup) (sub : ∀ z ∈ zs, z ∈ es.map (wayN rs (numsG (reachedL rs es)))) : zs.length ≤ 76 := by
  have lu : (reachedL rs es).length = rs.length := reached_len
  have dm := ddG_mem (reachedL rs es)
  have dl := ddG_le (reachedL rs es)
  have told : ∀ a b : Nat, [((a : Nat) : Int), ((b : Nat) : Int)] ∈ zs → ∃ e ∈ es, a = (ddG (reachedL rs es)).idxOf ((reachedL rs es).getD (rs.idxOf e.1) 0) ∧ b = (ddG (reachedL rs es)).idxOf ((reachedL rs es).getD (rs.idxOf e.2) 0) := by
    intro a b h
    obtain ⟨e, he, ee⟩ := List.mem_map.mp (sub _ h)
    unfold wayN at ee
    injection ee with e1 e2
    injection e2 with e2 _
    refine ⟨e, he, ?_, ?_⟩
    · rw [← (num_is lu (ok.fst e he)).1]; omega
    · rw [← (num_is lu (ok.snd e he)).1]; omega
  refine pairs_few (m := (ddG (reachedL rs es)).length) hz (fun z hzz => ?_) (by omega) (fun a b h1 h2 => ?_) (fun hm a h => ?_)
  · obtain ⟨e, he, ee⟩ := List.mem_map.mp (sub z hzz)
    obtain ⟨n1, m1⟩ := num_is lu (ok.fst e he)
    obtain ⟨n2, m2⟩ := num_is lu (ok.snd e he)
    refine ⟨_, _, ee.symm, ?_, ?_⟩
    · rw [n1]; exact List.idxOf_lt_length_of_mem ((dm _).mpr m1)
    · rw [n2]; exact List.idxOf_lt_length_of_mem ((dm _).mpr m2)
  · obtain ⟨e, he, ea, eb⟩ := told a b h1
    obtain ⟨f, hf, fb, fa⟩ := told b a h2
    obtain ⟨_, m1⟩ := num_is lu (ok.fst e he)
    obtain ⟨_, m2⟩ := num_is lu (ok.snd e he)
    obtain ⟨_, m3⟩ := num_is lu (ok.fst f hf)
    obtain ⟨_, m4⟩ := num_is lu (ok.snd f hf)
    have x1 := natIdx_inj ((dm _).mpr m1) ((dm _).mpr m4) (ea.symm.trans fa)
    have x2 := natIdx_inj ((dm _).mpr m2) ((dm _).mpr m3) (eb.symm.trans fb)
    have same : (reachedL rs es).getD (rs.idxOf e.1) 0 = (reachedL rs es).getD (rs.idxOf e.2) 0 := by
      refine Nat.eq_of_testBit_eq fun j => ?_
      rw [Bool.eq_iff_iff]
      refine ⟨fun h => ?_, fun h => reached_sub nd ok he h⟩
      rw [x2]
      exact reached_sub nd ok hf (by rw [← x1]; exact h)
    rw [ea, eb, same]
  · obtain ⟨e, he, ea, eb⟩ := told a a h
    obtain ⟨_, m1⟩ := num_is lu (ok.fst e he)
    obtain ⟨_, m2⟩ := num_is lu (ok.snd e he)
    have un : (reachedL rs es).Nodup := dl.2 (by omega)
    have x := natIdx_inj ((dm _).mpr m1) ((dm _).mpr m2) (ea.symm.trans eb)
    have l1 := List.idxOf_lt_length_of_mem (ok.fst e he)
    have l2 := List.idxOf_lt_length_of_mem (ok.snd e he)
    have g : ∀ {i : Nat} (h : i < (reachedL rs es).length), (reachedL rs es).getD i 0 = (reachedL rs es)[i] := fun {i} h => by
      rw [List.getD_eq_getElem?_getD, List.getElem?_eq_getElem h]; rfl
    rw [g (by omega), g (by omega)] at x
    have ii := (List.getElem_inj un).mp x
    have h2 := idx_at (ok.fst e he)
    rw [ii, idx_at (ok.snd e he)] at h2
    exact ok.ne e he (Option.some.inj h2).symm
end
end Ms
namespace Ms
open PySem PySem.Spec PyProof.Rows L2
/-! ### zip of any number of tuples: its cells stand one behind another, the iterators first -/
abbrev zrefs (i0 n : Nat) : List Value := (List.range n).map fun k => Value.ref (i0 + k)
abbrev zcol (rows : List (Addr × Array Value)) (j : Nat) : List Value := rows.map fun p => p.2.getD j .none
/-- where a zip stands, but for the tuple that it hands out again -/
structure ZnAt (h : Heap) (rows : List (Addr × Array Value)) (i0 j : Nat) : Prop where
  zip : ∃ f0 f1, h.get? (i0 + rows.length + 2) = some { cls := .type "zip", dict := none, data := .fields #[f0, f1, .bool false, .ref (i0 + rows.length), .ref (i0 + rows.length + 1)], slots := #[] } ∧ (f0 = .none ∨ ∃ b : Nat, f0 = rawInt b)
  ti : h.get? (i0 + rows.length) = some { cls := .type "tuple", data := .seq (zrefs i0 rows.length).toArray }
  to : ∃ ys : Array Value, h.get? (i0 + rows.length + 1) = some { cls := .type "tuple", data := .seq ys } ∧ ys.size = rows.length
  its : ∀ (k : Nat) p, rows[k]? = some p → h.IsTupleIter (i0 + k) p.1 j
/-- outside its cells all is as before -/
def ZnOut (i0 n : Nat) (h h' : Heap) : Prop := ∀ (c : Nat) o, (c < i0 ∨ i0 + n + 2 < c) → h.get? c = some o → h'.get? c = some o
section
variable {prog : Program} {w : World} {A : Around} {E : Value → Shared → Prop} {s : Shared}
theorem wpAny_alive {M : Model} {a : Addr} {Q : Option Obj → Shared → Prop} (h : Q (s.heap.get? a) s) : wpAny M A (loadIfAlive a) Q E s := fun Γ p hΓ => by
  unfold loadIfAlive
  rw [Sem.wp_loadIfAlive]
  exact (wpAny_pure h) Γ p hΓ
theorem nn {a b : Nat} (h : ¬ a = b) : (show Addr from a) ≠ (show Addr from b) := h
/-- in the middle of a step: k iterators have moved on -/
structure ZnMid (h0 h : Heap) (rows : List (Addr × Array Value)) (i0 j k : Nat) (f0 f1 : Value) : Prop where
  zip : h.get? (i0 + rows.length + 2) = some { cls := .type "zip", dict := none, data := .fields #[f0, f1, .bool false, .ref (i0 + rows.length), .ref (i0 + rows.length + 1)], slots := #[] }
  ti : h.get? (i0 + rows.length) = some { cls := .type "tuple", data := .seq (zrefs i0 rows.length).toArray }
  on : ∀ (i : Nat) p, i < k → rows[i]? = some p → h.IsTupleIter (i0 + i) p.1 (j + 1)
  off : ∀ (i : Nat) p, k ≤ i → rows[i]? = some p → h.IsTupleIter (i0 + i) p.1 j
  out : ZnOut i0 rows.length h0 h
  sz : h.objs.size = h0.objs.size
theorem tupIter_ne {h h' : Heap} {it l : Addr} {i : Nat} {x : Addr} (t : h.IsTupleIter it l i) (sb : Heap.SameBut x h h') (ne : it ≠ x) : h'.IsTupleIter it l i := t.at fun o e => (sb.2 _ ne).trans e
theorem ZnMid.step {h0 h h' : Heap} {rows : List (Addr × Array Value)} {i0 j k : Nat} {f0 f1 : Value} {p : Addr × Array Value} (M : ZnMid h0 h rows i0 j k f0 f1) (hp : rows[k]? = some p) (it : h'.IsTupleIter (i0 + k) p.1 (j + 1)) (sb : Heap.SameBut (i0 + k) h h') : ZnMid h0 h' rows i0 j (k + 1) f0 f1 := by
  have hk : k < rows.length := (List.getElem?_eq_some_iff.mp hp).1
  refine ⟨(sb.2 _ (nn (by omega))).trans M.zip, (sb.2 _ (nn (by omega))).trans M.ti, fun i q hi hq => ?_, fun i q hi hq => ?_, fun (c : Nat) o hc e => (sb.2 c (nn (by omega))).trans (M.out c o hc e), sb.1.trans M.sz⟩
  · by_cases e : i = k
    · subst e
      rw [hp] at hq
      cases hq
      exact it
    · exact tupIter_ne (M.on i q (by omega) hq) sb (nn (by omega))
  · exact tupIter_ne (M.off i q (by omega) hq) sb (nn (by omega))
theorem ZnMid.over {h0 h h' : Heap} {rows : List (Addr × Array Value)} {i0 j k : Nat} {f0 f1 : Value} (M : ZnMid h0 h rows i0 j k f0 f1) (sb : Heap.SameBut (i0 + rows.length + 1) h h') : ZnMid h0 h' rows i0 j k f0 f1 :=
  ⟨(sb.2 _ (nn (by omega))).trans M.zip, (sb.2 _ (nn (by omega))).trans M.ti, fun i q hi hq => tupIter_ne (M.on i q hi hq) sb (nn (by have := (List.getElem?_eq_some_iff.mp hq).1; omega)), fun i q hi hq => tupIter_ne (M.off i q hi hq) sb (nn (by have := (List.getElem?_eq_some_iff.mp hq).1; omega)),
    fun (c : Nat) o hc e => (sb.2 c (nn (by omega))).trans (M.out c o hc e), sb.1.trans M.sz⟩
theorem drop_at {α : Type} {l rest : List α} {x : α} {k : Nat} (e : x :: rest = l.drop k) : l[k]? = some x ∧ rest = l.drop (k + 1) := by
  have h1 : (l.drop k)[0]? = some x := by rw [← e]; rfl
  rw [List.getElem?_drop] at h1
  refine ⟨h1, ?_⟩
  have h2 : (l.drop k).drop 1 = rest := by rw [← e]; rfl
  rw [← h2, List.drop_drop]
theorem zrefs_at {i0 n k : Nat} (h : k < n) : (zrefs i0 n)[k]? = some (.ref (i0 + k)) := by
  rw [List.getElem?_map, List.getElem?_range h]; rfl
theorem zidx_at {i0 n k : Nat} {x : Value × Nat} (h : (zrefs i0 n).zipIdx[k]? = some x) : x = (.ref (i0 + k), k) ∧ k < n := by
  rw [List.getElem?_zipIdx] at h
  obtain ⟨y, hy, e⟩ := Option.map_eq_some_iff.mp h
  have hk : k < n := by
    have := (List.getElem?_eq_some_iff.mp hy).1
    rw [List.length_map, List.length_range] at this
    exact this
  rw [zrefs_at hk] at hy
  cases hy
  exact ⟨by rw [← e, Nat.zero_add], hk⟩
end
end Ms
namespace Ms
open PySem PySem.Spec PyProof.Rows L2
/-! ### zip of any number of tuples: its next item -/
section
variable {prog : Program} {w : World} {A : Around} {E : Value → Shared → Prop} {s : Shared}
/-- whether the tuple is free, as the zip asks -/
theorem zn_free {n i0 : Nat} {f0 f1 : Value} {hp : Heap} {g : Array GenState} {d : Drawn} {tk : Nat} {os : OsState} (hz : hp.get? (i0 + n + 2) = some { cls := .type "zip", dict := none, data := .fields #[f0, f1, .bool false, .ref (i0 + n), .ref (i0 + n + 1)], slots := #[] })
    (hf : f0 = .none ∨ ∃ b : Nat, f0 = rawInt b) {Q : Bool → Shared → Prop} (yes : Q true ⟨hp, g, d, tk, os⟩)
    (no : ∀ h' f1', h'.get? (i0 + n + 2) = some { cls := .type "zip", dict := none, data := .fields #[f0, f1', .bool false, .ref (i0 + n), .ref (i0 + n + 1)], slots := #[] } → Heap.SameBut (i0 + n + 2) hp h' → Q false ⟨h', g, d, tk, os⟩) :
    wpAny (model prog w) A (Builtin.SmallTypes.ownedTupleIsFree (.ref (i0 + n + 2))) Q E ⟨hp, g, d, tk, os⟩ := by
  unfold Builtin.SmallTypes.ownedTupleIsFree
  refine wpAny_bind (wpAny_field hz rfl (x := f0) rfl ?_)
  rcases hf with rfl | ⟨b, rfl⟩
  · exact wpAny_pure yes
  · show wpAny _ _ (loadIfAlive b >>= _) _ _ _
    refine wpAny_bind (wpAny_alive ?_)
    cases hb : hp.get? b with
    | none => exact wp_if_pos rfl (wpAny_pure yes)
    | some o =>
      refine wp_if_neg (by simp) ?_
      refine wpAny_bind (wpAny_field hz rfl (x := f1) rfl ?_)
      by_cases e : (f1 != Value.bool true) = true
      · refine wp_if_pos e (wpAny_bind (wpAny_setField_rec hz (by simp) fun h' hz' sb => wpAny_pure (no h' (.bool true) hz' sb)))
      · exact wp_if_neg e (wpAny_pure (no hp f1 hz (Heap.SameBut.refl ..)))
theorem ZnAt.mid {h0 h' : Heap} {rows : List (Addr × Array Value)} {i0 j : Nat} {f0 f1 : Value} (Z : ZnAt h0 rows i0 j) (hz : h'.get? (i0 + rows.length + 2) = some { cls := .type "zip", dict := none, data := .fields #[f0, f1, .bool false, .ref (i0 + rows.length), .ref (i0 + rows.length + 1)], slots := #[] }) (sb : Heap.SameBut (i0 + rows.length + 2) h0 h') : ZnMid h0 h' rows i0 j 0 f0 f1 :=
  ⟨hz, (sb.2 _ (nn (by omega))).trans Z.ti, (fun i p hi => absurd hi (Nat.not_lt_zero _)), fun i p _ hq => tupIter_ne (Z.its i p hq) sb (nn (by have := (List.getElem?_eq_some_iff.mp hq).1; omega)), fun (c : Nat) o hc e => (sb.2 c (nn (by omega))).trans e, sb.1⟩
theorem zcol_at {rows : List (Addr × Array Value)} {j k : Nat} {p : Addr × Array Value} (h : rows[k]? = some p) : (zcol rows j)[k]? = some (p.2.getD j .none) := by rw [List.getElem?_map, h]; rfl
theorem take_col {rows : List (Addr × Array Value)} {j k : Nat} {p : Addr × Array Value} (h : rows[k]? = some p) : (zcol rows j).take (k + 1) = (zcol rows j).take k ++ [p.2.getD j .none] := by
  rw [List.take_succ, zcol_at h]; rfl
theorem zitem_of {h : Heap} {l : Addr} {xs : Array Value} {j : Nat} (hj : j < xs.size) : xs[j]? = some (xs.getD j .none) := by
  rw [Array.getD_eq_getD_getElem?, Array.getElem?_eq_getElem hj]; rfl
theorem set_col {ys : Array Value} {L : List Value} {k : Nat} {x : Value} (hk : k < ys.size) (e : ys.toList.take k = L.take k) (hx : L[k]? = some x) : (ys.setIfInBounds k x).toList.take (k + 1) = L.take (k + 1) := by
  rw [List.take_succ, List.take_succ, hx, Array.toList_setIfInBounds, List.take_set_of_le (Nat.le_refl _), e, List.getElem?_set_self (by simpa using hk)]
theorem zn_next_item {rows : List (Addr × Array Value)} {i0 j : Nat} {Q : Value → Shared → Prop} (Z : ZnAt s.heap rows i0 j) (tp : ∀ p ∈ rows, s.heap.IsTuple p.1 p.2) (lo : ∀ p ∈ rows, p.1 < i0) (hj : ∀ p ∈ rows, j < p.2.size) (some_ : rows ≠ []) (few : rows.length ≤ 1000)
    (q : ∀ h' tk, ZnAt h' rows i0 (j + 1) → h'.get? s.heap.objs.size = some { cls := .type "tuple", data := .seq (zcol rows j).toArray } → h'.objs.size = s.heap.objs.size + 1 → ZnOut i0 rows.length s.heap h' → Q (.ref s.heap.objs.size) { s with heap := h', toks := tk }) :
    wpAny (model prog w) A (Builtin.«zip.__next__» ⟨[.ref (i0 + rows.length + 2)], []⟩) (fun fin s' => ∃ v, fin = .done (.ret v) ∧ Q v s') E s := by
  obtain ⟨hp, g, d, tk0, os⟩ := s
  obtain ⟨f0, f1, hz, hf⟩ := Z.zip
  obtain ⟨ys0, hTO, hys⟩ := Z.to
  have hzl : i0 + rows.length + 2 < hp.objs.size := Heap.lt_size hz
  have lc : (zcol rows j).length = rows.length := List.length_map ..
  have tup : ∀ {h : Heap}, ZnOut i0 rows.length hp h → ∀ p ∈ rows, h.IsTuple p.1 p.2 := fun k p hpm => by
    obtain ⟨o, ho, r⟩ := tp p hpm
    exact ⟨o, k p.1 o (.inl (lo p hpm)) ho, r⟩
  show wpAny _ _ (field (.ref _) 2 >>= _) _ _ _
  refine wpAny_bind (wpAny_field hz rfl (x := .bool false) rfl ?_)
  show wpAny _ _ (field (.ref _) 3 >>= _) _ _ _
  refine wpAny_bind (wpAny_field hz rfl (x := .ref (i0 + rows.length)) rfl ?_)
  refine wpAny_bind (wpAny_seqItems Z.ti rfl ?_)
  have ne : (zrefs i0 rows.length).toArray.isEmpty = false := by
    cases rows with
    | nil => exact absurd rfl some_
    | cons p rs => simp [zrefs]
  simp only [ne, Bool.false_eq_true, if_false]
  refine wpAny_bind (zn_free hz hf ?_ fun h' f1' hz' sb => ?_)
  · simp only [if_true]
    refine wpAny_bind (wpAny_rule ?_)
    refine wpAny_bind (wpAny_field hz rfl (x := .ref (i0 + rows.length + 1)) rfl ?_)
    refine wpAny_bind (wpAny_setField_rec hz (by simp) fun g0 hz0 hs0 => ?_)
    have M0 : ZnMid hp g0 rows i0 j 0 .ellipsis f1 := Z.mid hz0 hs0
    have hT0 : g0.get? (i0 + rows.length + 1) = some { cls := .type "tuple", data := .seq ys0 } := (hs0.2 _ (nn (by omega))).trans hTO
    refine wpAny_bind (wpAny_forIn_list _ (fun left out now => out.1 = none ∧ ∃ (k : Nat) (h : Heap) (tk : Nat) (ys : Array Value), left = (zrefs i0 rows.length).zipIdx.drop k ∧ k ≤ rows.length ∧ now = ⟨h, g, d, tk, os⟩ ∧ ZnMid hp h rows i0 j k .ellipsis f1 ∧ h.get? (i0 + rows.length + 1) = some { cls := .type "tuple", data := .seq ys } ∧ ys.size = rows.length ∧ ys.toList.take k = (zcol rows j).take k)
      _ (fun x rest out now w => ?_) (fun out now w => ?_) _ _ ⟨rfl, 0, g0, tk0, ys0, rfl, Nat.zero_le _, rfl, M0, hT0, hys, rfl⟩)
    · obtain ⟨e0, k, h, tk, ys, el, hk, rfl, M, hT, hy, ey⟩ := w
      obtain ⟨e1, e2⟩ := drop_at el
      obtain ⟨rfl, hk'⟩ := zidx_at e1
      obtain ⟨p, hpk⟩ : ∃ p, rows[k]? = some p := ⟨rows[k], List.getElem?_eq_getElem hk'⟩
      have pm := List.mem_of_getElem? hpk
      refine wpAny_bind (wpAny_onRaise ?_)
      show wpAny _ _ (Builtin.SmallTypes.nextOf (.ref (i0 + k)) >>= _) _ _ ⟨h, g, d, tk, os⟩
      refine wpAny_bind (RZ.nextOf_tuple_item (s := ⟨h, g, d, tk, os⟩) (M.off k p (Nat.le_refl _) hpk) (tup M.out p pm) (zitem_of (h := h) (l := p.1) (hj p pm)) fun h1 it1 sb1 => wpAny_pure ?_)
      have M1 := M.step hpk it1 sb1
      have hT1 : h1.get? (i0 + rows.length + 1) = some { cls := .type "tuple", data := .seq ys } := (sb1.2 _ (nn (by omega))).trans hT
      refine wpAny_bind (wpAny_seqItems (s := ⟨h1, g, d, tk, os⟩) hT1 rfl ?_)
      refine wpAny_bind (wpAny_updateSeq (s := ⟨h1, g, d, tk, os⟩) hT1 rfl ?_ (by rw [hy, sizeLine_eq]; omega) (by rw [Array.size_setIfInBounds, hy, sizeLine_eq]; omega))
      refine wpAny_bind (wpAny_letGo (wpAny_pure ?_))
      have sb2 : Heap.SameBut (i0 + rows.length + 1) h1 (h1.update (i0 + rows.length + 1) (Obj.mapSeq fun z => z.setIfInBounds k (p.2.getD j .none))) := Heap.SameBut.update ..
      refine ⟨rfl, k + 1, _, tk, ys.setIfInBounds k (p.2.getD j .none), e2, hk', rfl, M1.over sb2, ?_, by rw [Array.size_setIfInBounds]; exact hy, set_col (by omega) ey (zcol_at hpk)⟩
      rw [Heap.get?_update_self _ hT1 rfl]
      simp [Obj.mapSeq]
    · obtain ⟨e0, k, h, tk, ys, el, hk, rfl, M, hT, hy, ey⟩ := w
      obtain ⟨o1, o2⟩ := out
      obtain rfl : o1 = none := e0
      obtain rfl : k = rows.length := by
        have := congrArg List.length el
        rw [List.length_drop, List.length_zipIdx, List.length_map, List.length_range, List.length_nil] at this
        omega
      have full : ys.toList = zcol rows j := by
        rw [List.take_of_length_le (by rw [Array.length_toList]; omega), List.take_of_length_le (by omega)] at ey
        exact ey
      refine wpAny_bind (wpAny_seqItems (s := ⟨h, g, d, tk, os⟩) hT rfl ?_)
      refine wpAny_bind (wpAny_newTuple ?_ (by rw [Array.length_toList, hy, sizeLine_eq]; omega))
      refine wpAny_bind ?_
      unfold Builtin.SmallTypes.ownedTupleHandOut
      have hsz : h.objs.size = hp.objs.size := M.sz
      rw [full]
      have hz6 : (h.push { cls := .type "tuple", data := .seq (zcol rows j).toArray }).get? (i0 + rows.length + 2) = _ := Heap.get?_push_of_some _ M.zip
      refine wpAny_bind (wpAny_setField_rec hz6 (by simp) fun h7 hz7 hs7 => ?_)
      refine wpAny_setField_rec hz7 (by simp) fun h8 hz8 hs8 => ?_
      refine wpAny_pure ⟨_, rfl, ?_⟩
      have up : ∀ (c : Nat) o, c ≠ i0 + rows.length + 2 → h.get? c = some o → h8.get? c = some o := fun c o hc e => (hs8.2 c hc).trans ((hs7.2 c hc).trans (Heap.get?_push_of_some _ e))
      have new : h8.get? hp.objs.size = some { cls := .type "tuple", data := .seq (zcol rows j).toArray } := by
        rw [← hsz]
        have hne : h.objs.size ≠ i0 + rows.length + 2 := by omega
        exact (hs8.2 _ hne).trans ((hs7.2 _ hne).trans (Heap.get?_push_size _ rfl))
      have zz : ZnAt h8 rows i0 (j + 1) := ⟨⟨rawInt h.objs.size, .bool false, hz8, .inr ⟨_, rfl⟩⟩, up _ _ (by omega) M.ti, ⟨ys, up _ _ (by omega) hT, hy⟩, fun i p hi => (M.on i p (List.getElem?_eq_some_iff.mp hi).1 hi).at fun o e => up _ o (by have := (List.getElem?_eq_some_iff.mp hi).1; omega) e⟩
      have out : ZnOut i0 rows.length hp h8 := fun (c : Nat) o hc e => up c o (by omega) (M.out c o hc e)
      have s8 : h8.objs.size = hp.objs.size + 1 := by rw [hs8.1, hs7.1, Heap.size_push, hsz]
      have fin := q h8 tk zz new s8 out
      rw [← hsz] at fin
      exact fin
  · simp only [Bool.false_eq_true, if_false]
    have M0 : ZnMid hp h' rows i0 j 0 f0 f1' := Z.mid hz' sb
    have hT0 : h'.get? (i0 + rows.length + 1) = some { cls := .type "tuple", data := .seq ys0 } := (sb.2 _ (nn (by omega))).trans hTO
    rw [← Array.forIn_toList]
    refine wpAny_bind (wpAny_forIn_list _ (fun left out now => out.1 = none ∧ ∃ (k : Nat) (h : Heap) (tk : Nat), left = (zrefs i0 rows.length).drop k ∧ k ≤ rows.length ∧ now = ⟨h, g, d, tk, os⟩ ∧ ZnMid hp h rows i0 j k f0 f1' ∧ h.get? (i0 + rows.length + 1) = some { cls := .type "tuple", data := .seq ys0 } ∧ out.2.toList = (zcol rows j).take k)
      _ (fun x rest out now w => ?_) (fun out now w => ?_) _ _ ⟨rfl, 0, h', tk0, rfl, Nat.zero_le _, rfl, M0, hT0, rfl⟩)
    · obtain ⟨e0, k, h, tk, el, hk, rfl, M, hT, ey⟩ := w
      obtain ⟨o1, o2⟩ := out
      obtain rfl : o1 = none := e0
      obtain ⟨e1, e2⟩ := drop_at el
      have hk' : k < rows.length := by
        have := (List.getElem?_eq_some_iff.mp e1).1
        rw [List.length_map, List.length_range] at this
        exact this
      rw [zrefs_at hk'] at e1
      cases e1
      obtain ⟨p, hpk⟩ : ∃ p, rows[k]? = some p := ⟨rows[k], List.getElem?_eq_getElem hk'⟩
      have pm := List.mem_of_getElem? hpk
      refine wpAny_bind (wpAny_holding ?_)
      show wpAny _ _ (Builtin.SmallTypes.nextOf (.ref (i0 + k)) >>= _) _ _ ⟨h, g, d, tk, os⟩
      refine wpAny_bind (RZ.nextOf_tuple_item (s := ⟨h, g, d, tk, os⟩) (M.off k p (Nat.le_refl _) hpk) (tup M.out p pm) (zitem_of (h := h) (l := p.1) (hj p pm)) fun h1 it1 sb1 => wpAny_pure (wpAny_pure ?_))
      refine ⟨rfl, k + 1, h1, tk, e2, hk', rfl, M.step hpk it1 sb1, (sb1.2 _ (nn (by omega))).trans hT, ?_⟩
      rw [Array.toList_push, take_col hpk]
      exact congrArg (· ++ [p.2.getD j .none]) ey
    · obtain ⟨e0, k, h, tk, el, hk, rfl, M, hT, ey⟩ := w
      obtain ⟨o1, o2⟩ := out
      obtain rfl : o1 = none := e0
      obtain rfl : k = rows.length := by
        have := congrArg List.length el
        rw [List.length_drop, List.length_map, List.length_range, List.length_nil] at this
        omega
      rw [List.take_of_length_le (by omega)] at ey
      have ey : o2.toList = zcol rows j := ey
      have hsz : h.objs.size = hp.objs.size := M.sz
      show wpAny _ _ (newTuple o2.toList >>= _) _ _ _
      rw [ey]
      refine wpAny_bind (wpAny_newTuple ?_ (by rw [lc, sizeLine_eq]; omega))
      refine wpAny_pure ⟨_, rfl, ?_⟩
      have up : ∀ (c : Nat) o, h.get? c = some o → (h.push { cls := .type "tuple", data := .seq (zcol rows j).toArray }).get? c = some o := fun c o e => Heap.get?_push_of_some _ e
      have fin := q _ tk ⟨⟨f0, f1', up _ _ M.zip, hf⟩, up _ _ M.ti, ⟨ys0, up _ _ hT, hys⟩, fun i p hi => (M.on i p (List.getElem?_eq_some_iff.mp hi).1 hi).at fun o e => up _ o e⟩ (by rw [← hsz]; exact Heap.get?_push_size _ rfl) (by rw [Heap.size_push, hsz]) fun (c : Nat) o hc e => up c o (M.out c o hc e)
      rw [← hsz] at fin
      exact fin
end
end Ms
namespace Ms
open PySem PySem.Spec PyProof.Rows L2
/-! ### zip of any number of tuples: its end, its beginning -/
section
variable {prog : Program} {w : World} {A : Around} {E : Value → Shared → Prop} {s : Shared}
theorem zn_next_end {rows : List (Addr × Array Value)} {i0 j : Nat} {Q : Fin → Shared → Prop} (hh : A.handled = none) (Z : ZnAt s.heap rows i0 j) (tp : ∀ p ∈ rows, s.heap.IsTuple p.1 p.2) (lo : ∀ p ∈ rows, p.1 < i0) (hj : ∀ p ∈ rows, p.2.size ≤ j) (some_ : rows ≠ [])
    (q : ∀ h' tk e, ZnOut i0 rows.length s.heap h' → (∃ o, h'.get? e = some o ∧ o.cls = .type "StopIteration") → E (.ref e) { s with heap := h', toks := tk }) :
    wpAny (model prog w) A (Builtin.«zip.__next__» ⟨[.ref (i0 + rows.length + 2)], []⟩) Q E s := by
  obtain ⟨hp, g, d, tk0, os⟩ := s
  obtain ⟨f0, f1, hz, hf⟩ := Z.zip
  have hzl : i0 + rows.length + 2 < hp.objs.size := Heap.lt_size hz
  obtain ⟨p, rs, er⟩ : ∃ p rs, rows = p :: rs := by
    cases rows with
    | nil => exact absurd rfl some_
    | cons p rs => exact ⟨p, rs, rfl⟩
  have hp0 : rows[0]? = some p := by rw [er]; rfl
  have pm : p ∈ rows := List.mem_of_getElem? hp0
  have n0 : 0 < rows.length := by rw [er]; exact Nat.succ_pos _
  have tup : ∀ {h : Heap}, Heap.SameBut (i0 + rows.length + 2) hp h → h.IsTuple p.1 p.2 := fun k => by
    obtain ⟨o, ho, r⟩ := tp p pm
    have lt := lo p pm
    have key : ∀ a b c : Nat, a < b → ¬ a = b + c + 2 := fun a b c h => by omega
    exact ⟨o, (k.2 p.1 (nn (key _ _ _ lt))).trans ho, r⟩
  have none_ : p.2[j]? = none := Array.getElem?_eq_none (hj p pm)
  have c0 : ∃ R, zrefs i0 rows.length = .ref (i0 + 0) :: R := by
    refine ⟨(zrefs i0 rows.length).drop 1, ?_⟩
    have e := zrefs_at (i0 := i0) n0
    have lz : 0 < (zrefs i0 rows.length).length := by rw [List.length_map, List.length_range]; exact n0
    rw [List.getElem?_eq_getElem lz] at e
    have e2 := List.drop_eq_getElem_cons lz
    rw [List.drop_zero, Option.some.inj e] at e2
    exact e2
  show wpAny _ _ (field (.ref _) 2 >>= _) _ _ _
  refine wpAny_bind (wpAny_field hz rfl (x := .bool false) rfl ?_)
  show wpAny _ _ (field (.ref _) 3 >>= _) _ _ _
  refine wpAny_bind (wpAny_field hz rfl (x := .ref (i0 + rows.length)) rfl ?_)
  refine wpAny_bind (wpAny_seqItems Z.ti rfl ?_)
  obtain ⟨R, eR⟩ := c0
  have ne : (zrefs i0 rows.length).toArray.isEmpty = false := by rw [eR]; simp
  simp only [ne, Bool.false_eq_true, if_false]
  refine wpAny_bind (zn_free hz hf ?_ fun h' f1' hz' sb => ?_)
  · simp only [if_true]
    refine wpAny_bind (wpAny_rule ?_)
    refine wpAny_bind (wpAny_field hz rfl (x := .ref (i0 + rows.length + 1)) rfl ?_)
    refine wpAny_bind (wpAny_setField_rec hz (by simp) fun g0 hz0 hs0 => ?_)
    have it0 : g0.IsTupleIter (i0 + 0) p.1 j := tupIter_ne (Z.its 0 p hp0) hs0 (nn (by omega))
    rw [eR]
    simp only [List.zipIdx_cons, List.forIn_cons]
    refine wpAny_bind (wpAny_bind (wpAny_bind (wpAny_onRaise ?_)))
    show wpAny _ _ (Builtin.SmallTypes.nextOf (.ref (i0 + 0)) >>= _) _ _ ⟨g0, g, d, tk0, os⟩
    refine wpAny_bind (RZ.nextOf_tuple_end (s := ⟨g0, g, d, tk0, os⟩) hh it0 (tup hs0) none_ fun h1 e x1 he => ?_)
    obtain ⟨oe, hoe, hce⟩ := he
    have hz1 : h1.get? (i0 + rows.length + 2) = _ := x1 _ _ (nn (by omega)) hz0
    have hez : e ≠ i0 + rows.length + 2 := fun z => by
      subst z
      rw [hz1] at hoe
      cases hoe
      simp at hce
    refine wpAny_setField_rec (s := ⟨h1, g, d, tk0, os⟩) hz1 (by simp) fun h2 _ s2 => ?_
    exact q h2 tk0 e (fun (c : Nat) o hc z => (s2.2 c (nn (by omega))).trans (x1 c o (nn (by omega)) ((hs0.2 c (nn (by omega))).trans z))) ⟨oe, (s2.2 _ hez).trans hoe, hce⟩
  · simp only [Bool.false_eq_true, if_false]
    have it0 : h'.IsTupleIter (i0 + 0) p.1 j := tupIter_ne (Z.its 0 p hp0) sb (nn (by omega))
    rw [← Array.forIn_toList]
    show wpAny _ _ (forIn (zrefs i0 rows.length) _ _ >>= _) _ _ _
    rw [eR]
    simp only [List.forIn_cons]
    refine wpAny_bind (wpAny_bind (wpAny_bind (wpAny_holding ?_)))
    show wpAny _ _ (Builtin.SmallTypes.nextOf (.ref (i0 + 0)) >>= _) _ _ ⟨h', g, d, tk0, os⟩
    refine wpAny_bind (RZ.nextOf_tuple_end (s := ⟨h', g, d, tk0, os⟩) hh it0 (tup sb) none_ fun h1 e x1 he => ?_)
    exact q h1 tk0 e (fun (c : Nat) o hc z => x1 c o (nn (by omega)) ((sb.2 c (nn (by omega))).trans z)) he
theorem zn_item {rows : List (Addr × Array Value)} {i0 j : Nat} {Q : Option Value → Shared → Prop} (Z : ZnAt s.heap rows i0 j) (tp : ∀ p ∈ rows, s.heap.IsTuple p.1 p.2) (lo : ∀ p ∈ rows, p.1 < i0) (hj : ∀ p ∈ rows, j < p.2.size) (some_ : rows ≠ []) (few : rows.length ≤ 1000)
    (q : ∀ h' tk, ZnAt h' rows i0 (j + 1) → h'.get? s.heap.objs.size = some { cls := .type "tuple", data := .seq (zcol rows j).toArray } → h'.objs.size = s.heap.objs.size + 1 → ZnOut i0 rows.length s.heap h' → Q (some (.ref s.heap.objs.size)) { s with heap := h', toks := tk }) :
    wpAny (model prog w) A (pyNext (.ref (i0 + rows.length + 2))) Q E s := by
  obtain ⟨f0, f1, hz, hf⟩ := Z.zip
  have ty : s.TypeIs (.ref (i0 + rows.length + 2)) "zip" := ⟨_, hz, rfl⟩
  unfold pyNext
  exact wpAny_bind (wpAny_attempt (wpAny_callSpecial?_slot (name := Str.ofString "__next__") ty F.slot_zip_next
    (wpAny_call_entry F.slot_zip_next ty F.entry_zip_next (zn_next_item Z tp lo hj some_ few fun h' tk a b c d => wpAny_pure (q h' tk a b c d)) (F.args_zip_next_1 _))))
theorem zn_end {rows : List (Addr × Array Value)} {i0 j : Nat} {Q : Option Value → Shared → Prop} (hh : A.in1.handled = none) (Z : ZnAt s.heap rows i0 j) (tp : ∀ p ∈ rows, s.heap.IsTuple p.1 p.2) (lo : ∀ p ∈ rows, p.1 < i0) (hj : ∀ p ∈ rows, p.2.size ≤ j) (some_ : rows ≠ [])
    (q : ∀ h' tk, ZnOut i0 rows.length s.heap h' → Q none { s with heap := h', toks := tk }) : wpAny (model prog w) A (pyNext (.ref (i0 + rows.length + 2))) Q E s := by
  obtain ⟨f0, f1, hz, hf⟩ := Z.zip
  have ty : s.TypeIs (.ref (i0 + rows.length + 2)) "zip" := ⟨_, hz, rfl⟩
  unfold pyNext
  refine wpAny_bind (wpAny_attempt (wpAny_callSpecial?_slot (name := Str.ofString "__next__") ty F.slot_zip_next
    (wpAny_call_entry F.slot_zip_next ty F.entry_zip_next (zn_next_end hh Z tp lo hj some_ fun h' tk e k he => ?_) (F.args_zip_next_1 _))))
  obtain ⟨o, ho, hc⟩ := he
  refine wpAny_bind (wpAny_isInstance (T := "StopIteration") (b := true) ⟨o, ho, hc⟩ isSubtype_stop ?_)
  exact wpAny_pure (q _ _ k)
theorem zn_iter {rows : List (Addr × Array Value)} {i0 j : Nat} {Q : Value → Shared → Prop} (Z : ZnAt s.heap rows i0 j) (q : Q (.ref (i0 + rows.length + 2)) s) : wpAny (model prog w) A (pyIter (.ref (i0 + rows.length + 2))) Q E s := by
  obtain ⟨f0, f1, hz, hf⟩ := Z.zip
  have ty : s.TypeIs (.ref (i0 + rows.length + 2)) "zip" := ⟨_, hz, rfl⟩
  refine wpAny_pyIter_slot ty F.slot_zip_iter (wpAny_call_entry F.slot_zip_iter ty F.entry_zip_iter ?_ (F.args_zip_iter_1 _))
  show wpAny _ _ (ret (.ref _)) _ _ s
  exact wpAny_pure ⟨_, rfl, "zip", _, ty, F.slot_zip_next.lookup, q⟩
/-! the making -/
theorem zn_type : ∀ vs : List Value, vs.length ≤ 12 → checkTypeCall "zip" ⟨vs, []⟩ = pure () ∧ checkBuiltinCall "zip.__new__" ⟨.type "zip" :: vs, []⟩ = pure () ∧ ∀ obj, argsOk "object.__init__" ⟨obj :: vs, []⟩
  | [], _ => ⟨by kernel_rfl, by kernel_rfl, fun obj => by unfold argsOk; kernel_rfl⟩
  | [_], _ => ⟨by kernel_rfl, by kernel_rfl, fun obj => by unfold argsOk; kernel_rfl⟩
  | [_, _], _ => ⟨by kernel_rfl, by kernel_rfl, fun obj => by unfold argsOk; kernel_rfl⟩
  | [_, _, _], _ => ⟨by kernel_rfl, by kernel_rfl, fun obj => by unfold argsOk; kernel_rfl⟩
  | [_, _, _, _], _ => ⟨by kernel_rfl, by kernel_rfl, fun obj => by unfold argsOk; kernel_rfl⟩
  | [_, _, _, _, _], _ => ⟨by kernel_rfl, by kernel_rfl, fun obj => by unfold argsOk; kernel_rfl⟩
  | [_, _, _, _, _, _], _ => ⟨by kernel_rfl, by kernel_rfl, fun obj => by unfold argsOk; kernel_rfl⟩
  | [_, _, _, _, _, _, _], _ => ⟨by kernel_rfl, by kernel_rfl, fun obj => by unfold argsOk; kernel_rfl⟩
  | [_, _, _, _, _, _, _, _], _ => ⟨by kernel_rfl, by kernel_rfl, fun obj => by unfold argsOk; kernel_rfl⟩
  | [_, _, _, _, _, _, _, _, _], _ => ⟨by kernel_rfl, by kernel_rfl, fun obj => by unfold argsOk; kernel_rfl⟩
  | [_, _, _, _, _, _, _, _, _, _], _ => ⟨by kernel_rfl, by kernel_rfl, fun obj => by unfold argsOk; kernel_rfl⟩
  | [_, _, _, _, _, _, _, _, _, _, _], _ => ⟨by kernel_rfl, by kernel_rfl, fun obj => by unfold argsOk; kernel_rfl⟩
  | [_, _, _, _, _, _, _, _, _, _, _, _], _ => ⟨by kernel_rfl, by kernel_rfl, fun obj => by unfold argsOk; kernel_rfl⟩
  | _ :: _ :: _ :: _ :: _ :: _ :: _ :: _ :: _ :: _ :: _ :: _ :: _ :: _, h => by simp at h
end
end Ms
namespace Ms
open PySem PySem.Spec PyProof.Rows L2
/-! ### zip of any number of tuples: the making -/
section
variable {prog : Program} {w : World} {A : Around} {E : Value → Shared → Prop} {s : Shared}
theorem iterAll_tups {rows : List (Addr × Array Value)} {Q : List Value → Shared → Prop} (tp : ∀ p ∈ rows, s.heap.IsTuple p.1 p.2)
    (q : ∀ h', h'.objs.size = s.heap.objs.size + rows.length → (∀ c o, s.heap.get? c = some o → h'.get? c = some o) → (∀ (k : Nat) p, rows[k]? = some p → h'.IsTupleIter (s.heap.objs.size + k) p.1 0) → Q (zrefs s.heap.objs.size rows.length) { s with heap := h' }) :
    wpAny (model prog w) A (Builtin.SmallTypes.iterAll (rows.map fun p => .ref p.1)) Q E s := by
  obtain ⟨hp, g, d, tk, os⟩ := s
  unfold Builtin.SmallTypes.iterAll
  refine wpAny_bind (wpAny_forIn_list _ (fun left out now => ∃ (k : Nat) (h : Heap), left = (rows.map fun p => Value.ref p.1).drop k ∧ k ≤ rows.length ∧ now = ⟨h, g, d, tk, os⟩ ∧ out.toList = zrefs hp.objs.size k ∧ h.objs.size = hp.objs.size + k ∧ (∀ c o, hp.get? c = some o → h.get? c = some o) ∧ ∀ (i : Nat) p, i < k → rows[i]? = some p → h.IsTupleIter (hp.objs.size + i) p.1 0)
    _ (fun x rest out now w => ?_) (fun out now w => ?_) _ _ ⟨0, hp, rfl, Nat.zero_le _, rfl, rfl, rfl, (fun _ _ e => e), fun i p hi => absurd hi (Nat.not_lt_zero _)⟩)
  · obtain ⟨k, h, el, hk, rfl, eo, hs, kp, its⟩ := w
    obtain ⟨e1, e2⟩ := drop_at el
    rw [List.getElem?_map] at e1
    obtain ⟨p, hpk, rfl⟩ := Option.map_eq_some_iff.mp e1
    have hk' : k < rows.length := (List.getElem?_eq_some_iff.mp hpk).1
    obtain ⟨o, ho, r⟩ := tp p (List.mem_of_getElem? hpk)
    refine wpAny_bind (wpAny_holding (wpAny_pyIter_tuple (s := ⟨h, g, d, tk, os⟩) ⟨o, kp _ _ ho, r⟩ (wpAny_pure ?_)))
    refine ⟨k + 1, h.push { cls := .type "tuple_iterator", data := .fields #[.ref p.1, .int 0 0] }, e2, hk', rfl, ?_, by rw [Heap.size_push, hs]; rfl, fun c o e => Heap.get?_push_of_some _ (kp c o e), fun i r hi hr => ?_⟩
    · rw [Array.toList_push, eo]
      show _ = (List.range (k + 1)).map _
      rw [List.range_succ, List.map_append]
      show _ = _ ++ [Value.ref (hp.objs.size + k)]
      rw [← hs]
    · by_cases e : i = k
      · subst e
        rw [hpk] at hr
        cases hr
        exact ⟨_, by rw [← hs]; exact Heap.get?_push_size _ rfl, rfl, rfl⟩
      · exact (its i r (by omega) hr).at fun o e => Heap.get?_push_of_some _ e
  · obtain ⟨k, h, el, hk, rfl, eo, hs, kp, its⟩ := w
    obtain rfl : k = rows.length := by
      have := congrArg List.length el
      rw [List.length_drop, List.length_map, List.length_nil] at this
      omega
    refine wpAny_pure ?_
    rw [eo]
    exact q h hs kp fun i p hi => its i p (List.getElem?_eq_some_iff.mp hi).1 hi
theorem meets_zn (rows : List (Addr × Array Value)) (few : rows.length ≤ 12) : Meets (Builtin.«zip.__new__» ⟨.type "zip" :: rows.map (fun p => .ref p.1), []⟩) (fun _ R s => (∀ p ∈ rows, s.heap.IsTuple p.1 p.2) ∧
    ∀ h', ZnAt h' rows s.heap.objs.size 0 → h'.objs.size = s.heap.objs.size + rows.length + 3 → (∀ c o, s.heap.get? c = some o → h'.get? c = some o) → R (.ok (.ret (.ref (s.heap.objs.size + rows.length + 2)))) { s with heap := h' }) :=
  .of_wp fun prog w A R s h => by
    obtain ⟨hp, g, d, tk, os⟩ := s
    obtain ⟨tp, q⟩ := h
    have hsub := sub_zip
    have nc : wpAny (model prog w) A.in1 (Builtin.SmallTypes.newClass "zip" ⟨.type "zip" :: rows.map (fun p => .ref p.1), []⟩) (fun r s' => r = (.type "zip", rows.map fun p => Value.ref p.1) ∧ s' = ⟨hp, g, d, tk, os⟩) (fun e s' => R (.error e) s') ⟨hp, g, d, tk, os⟩ := by
      unfold Builtin.SmallTypes.newClass
      wp_walk
      exact ⟨rfl, rfl⟩
    unfold Builtin.«zip.__new__»
    refine wpAny_bind (wpAny_mono nc (fun r s' hr => ?_) fun _ _ e => e)
    obtain ⟨rfl, rfl⟩ := hr
    show wpAny _ _ (Builtin.SmallTypes.iterAll _ >>= _) _ _ _
    refine wpAny_bind (iterAll_tups tp fun h' hs kp its => ?_)
    have lz : (zrefs hp.objs.size rows.length).length = rows.length := by rw [List.length_map, List.length_range]
    refine wpAny_bind (wpAny_newTuple ?_ (by show (zrefs hp.objs.size rows.length).length ≤ _; rw [lz, sizeLine_eq]; omega))
    refine wpAny_bind (wpAny_newTuple ?_ (by show (List.map _ (zrefs hp.objs.size rows.length)).length ≤ _; rw [List.length_map, lz, sizeLine_eq]; omega))
    have z1 : ∀ o, (h'.push o).objs.size = hp.objs.size + rows.length + 1 := fun o => by rw [Heap.size_push, hs]
    refine wpAny_bind ?_
    unfold Builtin.SmallTypes.newRecord
    simp only []
    refine wpAny_newObj_type ?_ ?_
    · refine wpAny_pure ⟨_, rfl, ?_⟩
      have z2 : ∀ o o', ((h'.push o).push o').objs.size = hp.objs.size + rows.length + 2 := fun o o' => by rw [Heap.size_push, z1]
      have z3 : ∀ o o' o'', (((h'.push o).push o').push o'').objs.size = hp.objs.size + rows.length + 3 := fun o o' o'' => by rw [Heap.size_push, z2]
      show R (.ok (.ret (.ref (Heap.objs ((h'.push _).push _)).size))) ⟨((h'.push _).push _).push _, g, d, tk, os⟩
      have fin := q (((h'.push { cls := .type "tuple", data := .seq (zrefs hp.objs.size rows.length).toArray }).push { cls := .type "tuple", data := .seq (List.map (fun _ => Value.none) (zrefs hp.objs.size rows.length)).toArray }).push { cls := .type "zip", data := .fields #[.none, .bool false, .bool false, .ref (hp.objs.size + rows.length), .ref (hp.objs.size + rows.length + 1)] })
        ⟨⟨.none, .bool false, ?_, .inl rfl⟩, ?_, ⟨(List.map (fun _ => Value.none) (zrefs hp.objs.size rows.length)).toArray, ?_, ?_⟩, fun k p hk => ?_⟩ (z3 _ _ _) (fun c o e => Heap.get?_push_of_some _ (Heap.get?_push_of_some _ (Heap.get?_push_of_some _ (kp c o e))))
      · rw [z2]
        have e1 : h'.objs.size = hp.objs.size + rows.length := hs
        rw [← z1 { cls := .type "tuple", data := .seq (zrefs hp.objs.size rows.length).toArray }, ← e1] at fin
        simp only [e1, z1] at fin ⊢
        exact fin
      · have e := z2 { cls := .type "tuple", data := .seq (zrefs hp.objs.size rows.length).toArray } { cls := .type "tuple", data := .seq (List.map (fun _ => Value.none) (zrefs hp.objs.size rows.length)).toArray }
        show Heap.get? _ (hp.objs.size + rows.length + 2) = _
        rw [← e]
        exact Heap.get?_push_size _ rfl
      · show Heap.get? _ (hp.objs.size + rows.length) = _
        have e1 : h'.objs.size = hp.objs.size + rows.length := hs
        rw [← e1]
        exact Heap.get?_push_of_some _ (Heap.get?_push_of_some _ (Heap.get?_push_size _ rfl))
      · have e := z1 { cls := .type "tuple", data := .seq (zrefs hp.objs.size rows.length).toArray }
        show Heap.get? _ (hp.objs.size + rows.length + 1) = _
        rw [← e]
        exact Heap.get?_push_of_some _ (Heap.get?_push_size _ rfl)
      · rw [List.size_toArray, List.length_map, lz]
      · exact (its k p hk).at fun o e => Heap.get?_push_of_some _ (Heap.get?_push_of_some _ (Heap.get?_push_of_some _ e))
    · show 5 ≤ sizeLine + 2
      rw [sizeLine_eq]
      omega
/-- zip(*rows): its cells -/
theorem call_zn {rows : List (Addr × Array Value)} {Q : Value → Shared → Prop} (few : rows.length ≤ 12) (tp : ∀ p ∈ rows, s.heap.IsTuple p.1 p.2)
    (q : ∀ h', ZnAt h' rows s.heap.objs.size 0 → h'.objs.size = s.heap.objs.size + rows.length + 3 → (∀ c o, s.heap.get? c = some o → h'.get? c = some o) → Q (.ref (s.heap.objs.size + rows.length + 2)) { s with heap := h' }) :
    wpAny (model prog w) A (call (.type "zip") (rows.map fun p => .ref p.1)) Q E s := by
  obtain ⟨t1, t2, t3⟩ := zn_type (rows.map fun p => Value.ref p.1) (by rw [List.length_map]; exact few)
  refine callType_new F.called_zip (by decide) t1 t2 t3 F.entry_zip_new (meets_zn rows few) ⟨tp, fun h' Z sz kp => ?_⟩
  obtain ⟨f0, f1, hz, _⟩ := Z.zip
  exact ⟨⟨_, hz, rfl⟩, q h' Z sz kp⟩
end
end Ms
namespace Ms
open PySem PySem.Spec PyProof.Rows L2
/-! ### for x in zip(*rows), rows a list of tuples of ints of one length -/
section
variable {M : Model} {A : Around} {E : Value → Shared → Prop} {s : Shared}
theorem callWith_typeStar {T : String} {x : Sem Value} {pos pos' : Pos} {Q : Value → Shared → Prop} (h : wpAny M A x (fun v s1 => PySem.W.StarOf M A E v (fun vs s2 => wpAny M A (call (.type T) vs) Q E s2) s1) E s) :
    wpAny M A (callWith pos (.type T) [] [(true, (do let v ← x; standAt pos'; pure v))] []) Q E s := by
  unfold callWith
  refine wpAny_bind (wpAny_holding (wpAny_mono (PySem.W.ks_lone (Q := fun a s2 => a.kw = [] ∧ wpAny M A (call (.type T) a.pos) Q E s2) (wpAny_mono h (fun v s1 w => ?_) fun _ _ e => e)) (fun a s1 w => wpAny_bind (wpAny_standAt ?_)) fun _ _ e => e))
  · unfold PySem.W.StarOf at w ⊢
    exact wpAny_mono w (fun b s2 w2 => ⟨w2.1, wpAny_mono w2.2 (fun vs s3 w3 => ⟨rfl, w3⟩) fun _ _ e => e⟩) fun _ _ e => e
  · obtain ⟨ps, kw⟩ := a
    obtain ⟨rfl, w⟩ := w
    refine wpAny_bind ?_
    show wpAny M A (Sem.pure Keeper.machine) _ _ _
    refine wpAny_pure ?_
    show wpAny M A (operate _ (call (.type T) ps) >>= _) Q E s1
    exact wpAny_bind (wpAny_operating (wpAny_mono w (fun r s2 q => wpAny_bind (wpAny_holding (wpAny_point (wpAny_pure q)))) fun _ _ e => e))
end
/-- rows at their addresses, all of d ints -/
def ItZN (K : PySem.W.Frag) (zs : List (Addr × List Int)) (d : Nat) : It :=
  ⟨fun i H => i < d ∧ ∀ p ∈ zs, SqT K H p.1 (p.2.map V.int),
    fun i H v H' => ∃ T, v = .ref T ∧ H T = none ∧ H' = upd H T (.tup ((zs.map fun p => p.2.getD i 0).map V.int)),
    fun i H => d ≤ i ∧ ∀ p ∈ zs, SqT K H p.1 (p.2.map V.int)⟩
theorem walk_zn {K : PySem.W.Frag} {zs : List (Addr × List Int)} {d : Nat} : Walk (ItZN K zs d) d (fun H => ∀ p ∈ zs, SqT K H p.1 (p.2.map V.int)) (fun i H v H' => ∃ T, v = .ref T ∧ H T = none ∧ H' = upd H T (.tup ((zs.map fun p => p.2.getD i 0).map V.int))) :=
  ⟨fun i _ hi q => ⟨hi, q⟩, fun _ q => ⟨Nat.le_refl _, q⟩, fun i H v H' _ q y => y⟩
abbrev znRows (zs : List (Addr × List Int)) : List (Addr × Array Value) := zs.map fun p => (p.1, #[])
abbrev znCells (i0 n : Nat) : List Addr := (List.range (n + 3)).map fun k => i0 + k
theorem zn_in {i0 n : Nat} {c : Nat} : (show Addr from c) ∈ znCells i0 n ↔ i0 ≤ c ∧ c ≤ i0 + n + 2 := by
  constructor
  · intro h
    obtain ⟨k, hk, e⟩ := List.mem_map.mp h
    have := List.mem_range.mp hk
    have e : i0 + k = c := e
    omega
  · rintro ⟨h1, h2⟩
    exact List.mem_map.mpr ⟨c - i0, List.mem_range.mpr (by omega), show i0 + (c - i0) = c by omega⟩
theorem ZnAt.re {h : Heap} {rows rows' : List (Addr × Array Value)} {i0 j : Nat} (Z : ZnAt h rows i0 j) (e : rows.map (·.1) = rows'.map (·.1)) : ZnAt h rows' i0 j := by
  have l : rows.length = rows'.length := by
    have := congrArg List.length e
    rwa [List.length_map, List.length_map] at this
  obtain ⟨a, b, c, d⟩ := Z
  rw [l] at a b c
  refine ⟨a, b, c, fun k p hp => ?_⟩
  have hk : k < rows.length := by
    have := (List.getElem?_eq_some_iff.mp hp).1
    omega
  have e2 : (rows.map (·.1))[k]? = (rows'.map (·.1))[k]? := by rw [e]
  rw [List.getElem?_map, List.getElem?_map, hp, List.getElem?_eq_getElem hk] at e2
  have e3 : rows[k].1 = p.1 := Option.some.inj e2
  rw [← e3]
  exact d k rows[k] (List.getElem?_eq_getElem hk)
theorem zn_live {h : Heap} {zs : List (Addr × List Int)} {i0 j : Nat} (Z : ZnAt h (znRows zs) i0 j) : ∀ c ∈ znCells i0 zs.length, ∃ o, h.get? c = some o ∧ ∀ v, o.data ≠ .cell v := fun (c : Nat) hc => by
  have lz : (znRows zs).length = zs.length := List.length_map ..
  obtain ⟨⟨f0, f1, hz, _⟩, hti, ⟨ys, hto, _⟩, its⟩ := Z
  rw [lz] at hz hti hto
  have hb := zn_in.mp hc
  by_cases c1 : c = i0 + zs.length + 2
  · rw [show c = i0 + zs.length + 2 from c1]
    exact ⟨_, hz, fun v q => nomatch q⟩
  by_cases c2 : c = i0 + zs.length
  · rw [show c = i0 + zs.length from c2]
    exact ⟨_, hti, fun v q => nomatch q⟩
  by_cases c3 : c = i0 + zs.length + 1
  · rw [show c = i0 + zs.length + 1 from c3]
    exact ⟨_, hto, fun v q => nomatch q⟩
  have key : ∀ a n i : Nat, i ≤ a → a ≤ i + n + 2 → ¬ a = i + n + 2 → ¬ a = i + n → ¬ a = i + n + 1 → a - i < n ∧ i + (a - i) = a := by
    intro a n i h1 h2 h3 h4 h5
    omega
  obtain ⟨k1, k2⟩ := key c zs.length i0 hb.1 hb.2 c1 c2 c3
  have hk : (znRows zs)[c - i0]? = some ((znRows zs)[c - i0]'(by rw [lz]; exact k1)) := List.getElem?_eq_getElem _
  obtain ⟨o, ho, _, hd⟩ := its _ _ hk
  rw [k2] at ho
  exact ⟨o, ho, fun v q => by rw [hd] at q; cases q⟩
theorem vals_rows {pins : List (Addr × Obj)} {X : Cx} {σ : L2.St} {H : Hp} {s : Shared} (I : L2.Inv X pins σ H s) {d : Nat} : ∀ {zs : List (Addr × List Int)}, (∀ p ∈ zs, SqT X.K H p.1 (p.2.map V.int)) → (∀ p ∈ zs, p.2.length = d) →
    ∃ rows : List (Addr × Array Value), rows.map (·.1) = zs.map (·.1) ∧ (∀ p ∈ rows, s.heap.IsTuple p.1 p.2) ∧ (∀ p ∈ rows, p.2.size = d) ∧ ∀ i, i < d → Vals ((zs.map fun p => p.2.getD i 0).map V.int) (zcol rows i)
  | [], _, _ => ⟨[], rfl, (fun p hp => nomatch hp), (fun p hp => nomatch hp), fun i _ => .nil⟩
  | z :: zs, h, hd => by
    obtain ⟨rows, e1, e2, e3, e4⟩ := vals_rows I (zs := zs) (fun p hp => h p (List.mem_cons_of_mem _ hp)) fun p hp => hd p (List.mem_cons_of_mem _ hp)
    obtain ⟨its, rv, pt, _⟩ := I.tuple (h z List.mem_cons_self)
    have lz := hd z List.mem_cons_self
    have li : its.length = d := by rw [← rv.length, List.length_map]; exact lz
    refine ⟨(z.1, its.toArray) :: rows, by rw [List.map_cons, List.map_cons, e1], fun p hp => ?_, fun p hp => ?_, fun i hi => ?_⟩
    · rcases List.mem_cons.mp hp with rfl | hp
      · exact pt
      · exact e2 p hp
    · rcases List.mem_cons.mp hp with rfl | hp
      · rw [List.size_toArray]; exact li
      · exact e3 p hp
    · refine .cons ?_ (e4 i hi)
      have hz : (z.2.map V.int)[i]? = some (V.int (z.2.getD i 0)) := by
        rw [List.getElem?_map, List.getD_eq_getElem?_getD, List.getElem?_eq_getElem (by omega)]; rfl
      obtain ⟨v, hv, r⟩ := rv.get hz
      have ev : its.toArray.getD i .none = v := by
        rw [Array.getD_eq_getD_getElem?, List.getElem?_toArray, hv]; rfl
      show RelV _ (its.toArray.getD i .none)
      rw [ev]
      exact r
theorem turn_zn {P : Program} {w : World} {K : PySem.W.Frag} {nm : Str} {px : Pos} {zs : List (Addr × List Int)} {i0 d : Nat} (lo : ∀ p ∈ zs, p.1 < i0) (hd : ∀ p ∈ zs, p.2.length = d) (some_ : zs ≠ []) (few : zs.length ≤ 1000) :
    Turn P w K (.Name nm px) (ItZN K zs d) (znCells i0 zs.length) (show Addr from i0 + zs.length + 2) (fun i h => ZnAt h (znRows zs) i0 i) where
  mem := zn_in.mpr ⟨by omega, by omega⟩
  obj := fun i h st => zn_live st
  keep := fun i h h' st k => by
    have lz : (znRows zs).length = zs.length := List.length_map ..
    obtain ⟨⟨f0, f1, hz, hf⟩, hti, ⟨ys, hto, hy⟩, its⟩ := st
    rw [lz] at hz hti hto
    refine ⟨⟨f0, f1, ?_, hf⟩, ?_, ⟨ys, ?_, hy⟩, fun c p hp => (its c p hp).at fun o q => k _ (zn_in.mpr ⟨Nat.le_add_right _ _, ?_⟩) o q⟩
    · rw [lz]; exact k _ (zn_in.mpr ⟨by omega, by omega⟩) _ hz
    · rw [lz]; exact k _ (zn_in.mpr ⟨by omega, by omega⟩) _ hti
    · rw [lz]; exact k _ (zn_in.mpr ⟨by omega, by omega⟩) _ hto
    · have := (List.getElem?_eq_some_iff.mp hp).1
      rw [lz] at this
      omega
  item := by
    intro X hP hw hK hc i pins s σ H E I hf st hg
    subst hP hw hK
    have live := zn_live st
    obtain ⟨hi, hT⟩ := hg
    obtain ⟨rows, e1, e2, e3, e4⟩ := vals_rows I hT hd
    have lr : rows.length = zs.length := by
      have := congrArg List.length e1
      rwa [List.length_map, List.length_map] at this
    have Z : ZnAt s.heap rows i0 i := st.re (by rw [e1, List.map_map]; rfl)
    have loR : ∀ p ∈ rows, p.1 < i0 := fun p hp => by
      have : p.1 ∈ zs.map (·.1) := by rw [← e1]; exact List.mem_map.mpr ⟨p, hp, rfl⟩
      obtain ⟨z, hz, e⟩ := List.mem_map.mp this
      rw [← e]
      exact lo z hz
    have nr : rows ≠ [] := fun e => some_ (List.length_eq_zero_iff.mp (by rw [← lr, e]; rfl))
    have fresh : ∀ c ∈ znCells i0 zs.length, c ≠ s.heap.objs.size := fun c hc => by
      obtain ⟨o, e, _⟩ := live c hc
      exact Nat.ne_of_lt (Heap.lt_size e)
    rw [← lr]
    refine zn_item Z e2 loR (fun p hp => by rw [e3 p hp]; exact hi) nr (by omega) fun h' tk Z' hT' sz out => ?_
    refine ⟨_, rfl, wpAny_pure ?_⟩
    have new : ObjOk X.prog X.w (upd H s.heap.objs.size (.tup ((zs.map fun p => p.2.getD i 0).map V.int))) h' s.heap.objs.size (.tup ((zs.map fun p => p.2.getD i 0).map V.int)) :=
      ⟨by rw [List.length_map, List.length_map, sizeLine_eq]; omega, zcol rows i, e4 i hi, ⟨_, hT', rfl, _, rfl⟩⟩
    have I1 : L2.Inv X pins σ (upd H s.heap.objs.size (.tup ((zs.map fun p => p.2.getD i 0).map V.int))) { s with heap := h', toks := tk } :=
      I.turnedNew (t' := tk) (ch := znCells i0 zs.length) (fun c o hb q => out c o (by
        have nc : ¬ (i0 ≤ (show Nat from c) ∧ (show Nat from c) ≤ i0 + zs.length + 2) := fun z => hb (zn_in.mpr z)
        rw [lr]
        have key : ∀ a b n : Nat, ¬ (b ≤ a ∧ a ≤ b + n + 2) → a < b ∨ b + n + 2 < a := fun a b n h => by omega
        exact key _ _ _ nc) q) hf (Nat.le_refl _) new
    refine ⟨.ref s.heap.objs.size, _, I1, rfl, ⟨_, rfl, I.hok.fresh (Nat.le_refl _), rfl⟩, Z'.re (by rw [e1, List.map_map]; rfl), fun c hcm => ?_⟩
    rw [lr] at hcm
    rw [upd_ne (fresh c hcm)]
    exact (hf c hcm).1
  done := by
    intro X hP hw hK hc i pins s σ H E I hf st hg
    subst hP hw hK
    obtain ⟨hi, hT⟩ := hg
    obtain ⟨rows, e1, e2, e3, e4⟩ := vals_rows I hT hd
    have lr : rows.length = zs.length := by
      have := congrArg List.length e1
      rwa [List.length_map, List.length_map] at this
    have Z : ZnAt s.heap rows i0 i := st.re (by rw [e1, List.map_map]; rfl)
    have loR : ∀ p ∈ rows, p.1 < i0 := fun p hp => by
      have : p.1 ∈ zs.map (·.1) := by rw [← e1]; exact List.mem_map.mpr ⟨p, hp, rfl⟩
      obtain ⟨z, hz, e⟩ := List.mem_map.mp this
      rw [← e]
      exact lo z hz
    have nr : rows ≠ [] := fun e => some_ (List.length_eq_zero_iff.mp (by rw [← lr, e]; rfl))
    rw [← lr]
    refine zn_end (I.ok.hd hc) Z e2 loR (fun p hp => by rw [e3 p hp]; exact hi) nr fun h' tk out => ?_
    refine ⟨rfl, I.turnedL (t' := tk) (ch := znCells i0 zs.length) (fun c o hb q => out c o (by
        have nc : ¬ (i0 ≤ (show Nat from c) ∧ (show Nat from c) ≤ i0 + zs.length + 2) := fun z => hb (zn_in.mpr z)
        rw [lr]
        have key : ∀ a b n : Nat, ¬ (b ≤ a ∧ a ≤ b + n + 2) → a < b ∨ b + n + 2 < a := fun a b n h => by omega
        exact key _ _ _ nc) q) hf⟩
  self := fun A i s Q E st h => by
    have lz : (znRows zs).length = zs.length := List.length_map ..
    have r := zn_iter (prog := P) (w := w) (A := A) (E := E) (Q := Q) (s := s) st (by rw [lz]; exact h)
    rw [lz] at r
    exact r
end Ms
namespace Ms
open PySem PySem.Spec PyProof.Rows L2
/-! ### for x in zip(*rows): the rule -/
def iZN (K : PySem.W.Frag) (te : TE) : TI := fun σ H R => te σ H fun y H1 => ∃ (g : Addr) (zs : List (Addr × List Int)) (d : Nat), y = .ref g ∧ SqL K H1 g (zs.map fun p => V.ref p.1) ∧ (∀ p ∈ zs, SqT K H1 p.1 (p.2.map V.int)) ∧ (∀ p ∈ zs, p.2.length = d) ∧ zs ≠ [] ∧ zs.length ≤ 12 ∧ R (ItZN K zs d) H1
theorem pi_zn {X : Cx} {e : Expr} {te : TE} {nm : Str} {px p pos sp : Pos} (hg : Gl X "zip") (hm : X.mg "zip" = none) (he : PE X e te) (hst : starEach [.Starred e sp] X.env = [(true, eval e X.env)] := by rfl) :
    PI X (.Name nm px) (.Call (.Name "zip" p) [.Starred e sp] [] pos) (iZN X.K te) := by
  refine ⟨fun pins s σ H R I h => Call_ (ld_blt I hg hm PyProof.Rows.boot_zip ?_)⟩
  rw [hst]
  refine callWith_typeStar (thn (he.run pins s σ H _ I h) fun v s1 w => ?_)
  obtain ⟨y, H1, I1, r1, g, zs, d, rfl, hl, ht, hd, ne, few, q⟩ := w
  obtain rfl : v = Value.ref g := r1
  refine StX.star_any I1 (.inr hl) fun us s2 I2 rv => ?_
  obtain ⟨rows, e1, e2, e3, e4⟩ := vals_rows I2 ht hd
  have lr : rows.length = zs.length := by
    have := congrArg List.length e1
    rwa [List.length_map, List.length_map] at this
  have eu : us = rows.map fun p => Value.ref p.1 := by
    rw [refs_of_vals rv]
    have : (rows.map (·.1)).map Value.ref = (zs.map (·.1)).map Value.ref := by rw [e1]
    rw [List.map_map, List.map_map] at this
    exact this.symm
  rw [eu]
  refine call_zn (by rw [lr]; exact few) e2 fun h' Z sz kp => ?_
  have lo : ∀ p ∈ zs, p.1 < s2.heap.objs.size := fun p hp => by
    obtain ⟨its, _, ⟨o, ho, _⟩, _⟩ := I2.tuple (ht p hp)
    exact Heap.lt_size ho
  have Z2 : ZnAt h' (znRows zs) s2.heap.objs.size 0 := Z.re (by rw [e1, List.map_map]; rfl)
  have I3 : L2.Inv X pins σ H1 { s2 with heap := h' } := I2.kept (t' := s2.toks) kp
  have T := turn_zn (P := X.prog) (w := X.w) (K := X.K) (nm := nm) (px := px) lo hd ne (by omega)
  refine zn_iter (s := { s2 with heap := h' }) Z ?_
  rw [lr]
  refine ⟨_, znCells s2.heap.objs.size zs.length, _, ItZN X.K zs d, H1, rfl, I3, T, Z2, fun c hc => ?_, q⟩
  have hb := (zn_in (c := c)).mp hc
  exact I2.fpOk hb.1 (I2.hok.fresh hb.1)
/-! ### set(t), t a tuple of ints; sorted of it -/
section
variable {X : Cx}
def rSetI (K : PySem.W.Frag) (w : World) : List V → Hp → VK → Prop := fun xs H Q => ∃ (l : Addr) (ns : List Int), xs = [V.ref l] ∧ SqT K H l (ns.map V.int) ∧ ns.length ≤ 60 ∧ ∀ a c, H a = none → c ≤ ns.length → Q (.ref a) (upd H a (SetO w a (fun j => decide (j ∈ ns)) c))
theorem cr_setI (hc : X.calm = true) : CallR X (.type "set") (rSetI X.K X.w) := by
  intro pins s σ H xs us Q I r h
  obtain ⟨l, ns, rfl, hl, hb, q⟩ := h
  rw [Vals.ref1 r]
  obtain ⟨its, rv, pt, _⟩ := I.tuple hl
  refine call_set_tupI (P := X.prog) (w := X.w) ns (I.ok.hd hc) pt (by simpa using rv.ints) (by unfold scanBound; omega) fun h' tk c S hc' k => ?_
  exact ⟨.ref s.heap.objs.size, upd H s.heap.objs.size (SetO X.w s.heap.objs.size (fun j => decide (j ∈ ns)) c), I.laid (t' := tk) k (Nat.le_refl _) (setO_new S), rfl, q _ c (I.hok.fresh (Nat.le_refl _)) hc'⟩
end
end Ms
namespace Ms
open PySem PySem.Spec PyProof.Rows L2
/-! ### zip(tuple, list) over KE's draws -/
/-- the tuple at a, the list at b, the items in new pairs -/
def ItZU (K : PySem.W.Frag) (a b : Addr) : It :=
  ⟨fun i H => ∃ (xs ys : List V), SqT K H a xs ∧ SqL K H b ys ∧ i < xs.length ∧ i < ys.length,
    fun i H v H' => ∃ T x y, v = .ref T ∧ H T = none ∧ H' = upd H T (.tup [x, y]) ∧ (∀ xs, SqT K H a xs → xs[i]? = some x) ∧ ∀ ys, SqL K H b ys → ys[i]? = some y,
    fun i H => ∃ xs ys : List V, SqT K H a xs ∧ SqL K H b ys ∧ i ≤ xs.length ∧ i ≤ ys.length ∧ (i = xs.length ∨ i = ys.length)⟩
theorem walk_zu {K : PySem.W.Frag} {a b : Addr} {xs ys : List V} {n : Nat} (hn : n = min xs.length ys.length) : Walk (ItZU K a b) n (fun H => SqT K H a xs ∧ SqL K H b ys) (YPair (fun i => xs[i]?) (fun i => ys[i]?)) := by
  subst hn
  refine ⟨fun i _ hi q => ⟨xs, ys, q.1, q.2, by omega, by omega⟩, fun _ q => ⟨xs, ys, q.1, q.2, by omega, by omega, by omega⟩, fun i H v H' _ q y => ?_⟩
  obtain ⟨T, x, z, h1, h2, h3, h4, h5⟩ := y
  exact ⟨T, x, z, h1, h2, h3, h4 xs q.1, h5 ys q.2⟩
section
variable {a b z TI TO i1 i2 : Addr}
abbrev zuCells (z TI TO i1 i2 : Addr) : List Addr := [z, TI, TO, i1, i2]
abbrev ZuSt (a b z TI TO i1 i2 : Addr) : Nat → Heap → Prop := fun i h => IsZip h z TI TO .none ∧ IsTupOf2 h TI (.ref i1) (.ref i2) ∧ (∃ x y, IsTupOf2 h TO x y) ∧ h.IsTupleIter i1 a i ∧ h.IsListIter i2 b i
theorem zu_mem {c z TI TO i1 i2 : Addr} (h : c ∈ zuCells z TI TO i1 i2) : c = z ∨ c = TI ∨ c = TO ∨ c = i1 ∨ c = i2 := by simpa using h
theorem zu_there {i : Nat} {h : Heap} (st : ZuSt a b z TI TO i1 i2 i h) : ∀ c ∈ zuCells z TI TO i1 i2, ∃ o, h.get? c = some o ∧ ∀ v, o.data ≠ .cell v := fun c hc => by
  obtain ⟨hz, hTI, ⟨x, y, hTO⟩, ⟨o1, e1, _, d1⟩, ⟨o2, e2, _, d2⟩⟩ := st
  rcases zu_mem hc with rfl | rfl | rfl | rfl | rfl
  · exact ⟨_, hz, fun v q => nomatch q⟩
  · exact ⟨_, hTI, fun v q => nomatch q⟩
  · exact ⟨_, hTO, fun v q => nomatch q⟩
  · exact ⟨o1, e1, fun v q => by rw [d1] at q; cases q⟩
  · exact ⟨o2, e2, fun v q => by rw [d2] at q; cases q⟩
theorem turn_zu {P : Program} {w : World} {K : PySem.W.Frag} {elts : List Expr} {kk : Nat} {tpos : Pos} (S : ZipSep2 z TI TO i1 i2 [i1, a] [i2, b]) (na : a ≠ i1) (nb : b ≠ i2) :
    Turn P w K (.Tuple elts kk tpos) (ItZU K a b) (zuCells z TI TO i1 i2) z (ZuSt a b z TI TO i1 i2) where
  mem := by simp
  obj := fun i h st => zu_there st
  keep := fun i h h' st k => by
    obtain ⟨hz, hTI, ⟨x, y, hTO⟩, h1, h2⟩ := st
    exact ⟨k z (by simp) _ hz, k TI (by simp) _ hTI, ⟨x, y, k TO (by simp) _ hTO⟩, h1.at fun o q => k i1 (by simp) o q, h2.at fun o q => k i2 (by simp) o q⟩
  item := by
    intro X hP hw hK hc i pins s σ H E I hf st hg
    subst hP hw hK
    have live := zu_there st
    obtain ⟨hz, hTI, ⟨x0, y0, hTO⟩, h1, h2⟩ := st
    obtain ⟨xs, ys, hqx, hqy, hi1, hi2⟩ := hg
    obtain ⟨its, rv, p, _⟩ := I.tuple hqx
    obtain ⟨its2, rv2, p2, _⟩ := I.list hqy
    have l1 := rv.length
    have l2 := rv2.length
    have hh : X.A.in1.handled = none := I.ok.hd hc
    have fresh : ∀ c ∈ zuCells z TI TO i1 i2, c ≠ s.heap.objs.size := fun c hc => by
      obtain ⟨o, e, _⟩ := live c hc
      exact Nat.ne_of_lt (Heap.lt_size e)
    refine wpAny_pyNext_zipD2_item S (Draws.tuple hh i1 a na its.toArray) (Draws.list hh i2 b nb its2.toArray) hz hTI hTO ⟨h1, p⟩ ⟨h2, p2.isList⟩ (by simp; omega) (by simp; omega) fun u u2 h' tk hu hu2 z' TO' st1' st2' hT hsz hk => ?_
    refine ⟨_, rfl, wpAny_letOwnedTupleGo_zip (s := { s with heap := h', toks := tk }) z' fun h'' z'' sb => ?_⟩
    have hx : xs[i]? = some xs[i] := List.getElem?_eq_getElem hi1
    have hy : ys[i]? = some ys[i] := List.getElem?_eq_getElem hi2
    obtain ⟨v, hv, ru⟩ := rv.get hx
    obtain ⟨v2, hv2, ru2⟩ := rv2.get hy
    have e1 : u = v := by simp [hv] at hu; exact hu.symm
    have e2 : u2 = v2 := by simp [hv2] at hu2; exact hu2.symm
    subst e1 e2
    have zN := fresh z (by simp)
    have hT2 : h''.get? s.heap.objs.size = some { cls := .type "tuple", data := .seq #[u, u2] } := (sb.2 _ zN.symm).trans hT
    have new : ObjOk X.prog X.w (upd H s.heap.objs.size (.tup [xs[i], ys[i]])) h'' s.heap.objs.size (.tup [xs[i], ys[i]]) :=
      ⟨(by show 2 ≤ sizeLine; decide), [u, u2], .cons ru (.cons ru2 .nil), ⟨_, hT2, rfl, _, rfl⟩⟩
    have I1 : L2.Inv X pins σ (upd H s.heap.objs.size (.tup [xs[i], ys[i]])) { s with heap := h'', toks := tk } :=
      I.turnedNew (t' := tk) (ch := zuCells z TI TO i1 i2) (fun c o hb q => (sb.2 c fun e => hb (by simp [e])).trans (hk c o (fun e => hb (by simp [e])) (fun e => hb (by simp [e])) (fun e => hb (by simp [e])) (fun e => hb (by simp [e])) q)) hf (Nat.le_refl _) new
    refine ⟨.ref s.heap.objs.size, _, I1, rfl, ⟨_, xs[i], ys[i], rfl, I.hok.fresh (Nat.le_refl _), rfl, fun l hl => ?_, fun l hl => ?_⟩, ⟨z'', (sb.2 _ S.TIz).trans (hk _ _ S.TIz S.TITO S.TIi1 S.TIi2 hTI), ⟨_, _, (sb.2 _ S.TOz).trans TO'⟩, st1'.1.at fun o q => (sb.2 _ S.zi1.symm).trans q, st2'.1.at fun o q => (sb.2 _ S.zi2.symm).trans q⟩, fun c hcm => ?_⟩
    · rw [I.tuple_inj hl hqx]; exact hx
    · rw [I.list_inj hl hqy]; exact hy
    · rw [upd_ne (fresh c hcm)]
      exact (hf c hcm).1
  done := by
    intro X hP hw hK hc i pins s σ H E I hf st hg
    subst hP hw hK
    obtain ⟨hz, hTI, ⟨x0, y0, hTO⟩, h1, h2⟩ := st
    obtain ⟨xs, ys, hqx, hqy, hi1, hi2, hend⟩ := hg
    obtain ⟨its, rv, p, _⟩ := I.tuple hqx
    obtain ⟨its2, rv2, p2, _⟩ := I.list hqy
    have l1 := rv.length
    have l2 := rv2.length
    have hh : X.A.in1.handled = none := I.ok.hd hc
    exact wpAny_pyNext_zipD2_end S (Draws.tuple hh i1 a na its.toArray) (Draws.list hh i2 b nb its2.toArray) hz hTI hTO ⟨h1, p⟩ ⟨h2, p2.isList⟩ (by simp; omega) (by simp; omega) (by simp; omega) fun h' tk hk =>
      ⟨rfl, I.turnedL (t' := tk) (ch := zuCells z TI TO i1 i2) (fun c o hb q => hk c o (fun e => hb (by simp [e])) (fun e => hb (by simp [e])) (fun e => hb (by simp [e])) (fun e => hb (by simp [e])) q) hf⟩
  self := fun A i s Q E st h => wpAny_pyIter_zip st.1 h
end
/-- zip(tuple, list) -/
def iZU (K : PySem.W.Frag) (ta : TA) : TI := fun σ H R => ta σ H fun vs H1 => ∃ a b xs ys, vs = [.ref a, .ref b] ∧ SqT K H1 a xs ∧ SqL K H1 b ys ∧ R (ItZU K a b) H1
theorem pi_zu {X : Cx} {e e2 : Expr} {ta : TA} {p pos tpos : Pos} {elts : List Expr} {kk : Nat} (hg : Gl X "zip") (hm : X.mg "zip" = none) (ha : PA X [e, e2] ta)
    (hs : starEach [e, e2] X.env = (false, eval e X.env) :: starEach [e2] X.env := by rfl) (hpl : (backTo pos (starEach [e2] X.env)).any (·.1) = false := by rfl) :
    PI X (.Tuple elts kk tpos) (.Call (.Name "zip" p) [e, e2] [] pos) (iZU X.K ta) := by
  refine ⟨fun pins s σ H R I h => Call_ (ld_blt I hg hm PyProof.Rows.boot_zip (PyProof.Rows.callWith_type1 (thn (ha.run pos pins s σ H _ I h) fun us s1 ⟨vs, H1, I1, r1, q1⟩ => ?_) hs hpl))⟩
  obtain ⟨a, b, xs, ys, ex, hqx, hqy, q⟩ := q1
  subst ex
  cases r1 with
  | cons r rr =>
    cases rr with
    | cons r' rr =>
      cases rr
      cases r
      cases r'
      obtain ⟨its, rv, p1, _⟩ := I1.tuple hqx
      obtain ⟨its2, rv2, p2, _⟩ := I1.list hqy
      obtain ⟨o1, ho1, _⟩ := id p1
      have la : a < s1.heap.objs.size := Heap.lt_size ho1
      have lb := p2.lt
      have fp : ∀ c ∈ zuCells (s1.heap.objs.size + 4) (s1.heap.objs.size + 2) (s1.heap.objs.size + 3) s1.heap.objs.size (s1.heap.objs.size + 1), FpOk X pins H1 c := fun c hcm => by
        have hle : s1.heap.objs.size ≤ c := by
          rcases zu_mem hcm with q | q | q | q | q
          · rw [q]; exact Nat.le_add_right _ _
          · rw [q]; exact Nat.le_add_right _ _
          · rw [q]; exact Nat.le_add_right _ _
          · rw [q]; exact Nat.le_refl _
          · rw [q]; exact Nat.le_add_right _ _
        exact I1.fpOk hle (I1.hok.fresh hle)
      have S : ZipSep2 (s1.heap.objs.size + 4) (s1.heap.objs.size + 2) (s1.heap.objs.size + 3) s1.heap.objs.size (s1.heap.objs.size + 1) [s1.heap.objs.size, a] [s1.heap.objs.size + 1, b] :=
        zip_sep2 (fun c h => by rw [List.mem_singleton.mp h]; exact la) (fun c h => by rw [List.mem_singleton.mp h]; exact lb)
      have nb : b ≠ s1.heap.objs.size + 1 := Nat.ne_of_lt (Nat.lt_succ_of_lt lb)
      have T := turn_zu (P := X.prog) (w := X.w) (K := X.K) (elts := elts) (kk := kk) (tpos := tpos) S (Nat.ne_of_lt la) nb
      refine zip_begins2 (begins_tuple a its.toArray) (begins_list b its2.toArray) p1 p2.isList fun h' hz hTI hTO h1 h2 hsz hk => wpAny_pyIter_zip hz ?_
      have I2 : L2.Inv X pins σ H1 { s1 with heap := h' } := I1.kept (t' := s1.toks) hk
      exact ⟨s1.heap.objs.size + 4, zuCells (s1.heap.objs.size + 4) (s1.heap.objs.size + 2) (s1.heap.objs.size + 3) s1.heap.objs.size (s1.heap.objs.size + 1), _, ItZU X.K a b, H1, rfl, I2, T,
        ⟨hz, hTI, ⟨_, _, hTO⟩, ⟨_, h1, rfl, rfl⟩, ⟨_, h2, rfl, rfl⟩⟩, fp, q⟩
end Ms
namespace Ms
open PySem PySem.Spec PyProof.Rows L2
/-! ### a dict with ints or texts as keys, by comprehension over a walk -/
theorem dc_it {J : It} {n : Nat} {G : Hp → Prop} {Y : Nat → Hp → V → Hp → Prop} (w : Walk J n G Y) {g : TG} {tt : TT} {tk tv : TE} {vs : List Nat} {σ : L2.St} {H1 : Hp} {D : Addr} {Qd : Hp → Prop} (Pv : Nat → Hp → Prop) (h0 : Pv 0 (upd H1 D (.dK []))) (hG : ∀ i H, i ≤ n → Pv i H → G H)
    (hs : ∀ i x H H', i < n → Pv i H → Y i H x H' → g x (wipe σ vs) H' fun σ2 H2 => wipe σ2 vs = wipe σ vs ∧ tt σ2 H2 fun b H3 =>
      if b = true then tk σ2 H3 fun y H4 => tv σ2 H4 fun z H5 => ∃ kvs k, y = kV k ∧ H5 D = some (.dK kvs) ∧ kvs.length < sizeLine ∧ Pv (i + 1) (upd H5 D (.dK (putK kvs k z))) else Pv (i + 1) H3) (hd : ∀ H, Pv n H → Qd H) :
    ∃ W : Nat → Nat → Hp → Prop, (∃ m, W 0 m (upd H1 D (.dK []))) ∧ ∀ i m H, W i m H →
      (J.stop i H ∧ Qd H) ∨ (J.go i H ∧ ∃ Nx : Hp → Prop, (∀ H', Nx H' → ∃ m', m' < m ∧ W (i + 1) m' H') ∧ ∀ x H', J.yld i H x H' → g x (wipe σ vs) H' fun σ2 H2 => wipe σ2 vs = wipe σ vs ∧ tt σ2 H2 fun b H3 =>
        if b = true then tk σ2 H3 fun y H4 => tv σ2 H4 fun z H5 => ∃ kvs k, y = kV k ∧ H5 D = some (.dK kvs) ∧ kvs.length < sizeLine ∧ Nx (upd H5 D (.dK (putK kvs k z))) else Nx H3) := by
  refine ⟨fun i m H => m = n - i ∧ i ≤ n ∧ Pv i H, ⟨n, by simp, Nat.zero_le _, h0⟩, ?_⟩
  rintro i m H ⟨rfl, hi, p⟩
  have q := hG i H hi p
  by_cases hlt : i < n
  · refine .inr ⟨w.goes i H hlt q, Pv (i + 1), fun H' p' => ⟨n - (i + 1), by omega, rfl, hlt, p'⟩, fun x H' y => hs i x H H' hlt p (w.yields i H x H' hlt q y)⟩
  · have e : i = n := by omega
    subst e
    exact .inl ⟨w.stops H q, hd H p⟩
end Ms
namespace Ms
open PySem PySem.Spec PyProof.Rows L2
/-! ### groups_of of the package -/
def ddK (l : List Nat) : List (Key × V) := (ddG l).map fun u => (Sum.inl ((u : Nat) : Int), V.bl true)
theorem ddK_put (l : List Nat) (u : Nat) : putK (ddK l) (Sum.inl ((u : Nat) : Int) : Key) (.bl true) = ddK (l ++ [u]) := by
  unfold ddK
  rw [ddG_snoc]
  by_cases c : u ∈ ddG l
  · rw [if_pos c]
    unfold putK
    rw [if_pos (by
      rw [List.any_eq_true]
      exact ⟨_, List.mem_map.mpr ⟨u, c, rfl⟩, decide_eq_true rfl⟩), List.map_map]
    refine List.map_congr_left fun x _ => ?_
    show (if (Sum.inl ((x : Nat) : Int) : Key) = Sum.inl ((u : Nat) : Int) then ((Sum.inl ((x : Nat) : Int) : Key), V.bl true) else _) = _
    by_cases e : (Sum.inl ((x : Nat) : Int) : Key) = Sum.inl ((u : Nat) : Int)
    · rw [if_pos e]
    · rw [if_neg e]
  · rw [if_neg c]
    unfold putK
    rw [if_neg (by
      rw [List.any_eq_true]
      rintro ⟨x, hx, e⟩
      obtain ⟨y, hy, rfl⟩ := List.mem_map.mp hx
      have e2 : (Sum.inl ((y : Nat) : Int) : Key) = Sum.inl ((u : Nat) : Int) := of_decide_eq_true e
      injection e2 with e2
      exact c (by rw [show u = y by omega]; exact hy)), List.map_append]
    rfl
/-- lists of rows, none empty, all rows of d ints -/
def MemAt (H : Hp) (d : Nat) (gs : List Addr) : Prop := ∀ g ∈ gs, ∃ zs : List (Addr × List Int), H g = some (.lst (zs.map fun p => V.ref p.1)) ∧ zs ≠ [] ∧ zs.length ≤ 12 ∧ ∀ p ∈ zs, H p.1 = some (.tup (p.2.map V.int)) ∧ p.2.length = d
section
variable {P : Program} {w : World} {K : PySem.W.Frag} {mg : Str → Option Value} {base : Heap} {fA fL : Addr}
abbrev NGo : List Str := ["grid", "switches", "reached", "different", "numbers", "members", "readings", "bits", "standing", "same", "values", "group"]
theorem scGo : FnScope NGo ["grid", "switches"] (defScope sGroups) := ⟨rfl, rfl, rfl, by decide +kernel, rfl, by decide +kernel, by decide +kernel⟩
def spGroups (K : PySem.W.Frag) : Sp := fun vs H Q _ => ∃ (p sw : Addr) (as : List Addr) (rs : List (List Int)) (ws : List V) (es : List (List Int × List Int)) (d : Nat), vs = [.ref p, .ref sw] ∧ SqT K H p (as.map V.ref) ∧ Rws H as rs ∧ rs.Nodup ∧ rs.length ≤ 12 ∧ (∀ r ∈ rs, r.length = d) ∧ d ≤ 900 ∧ SqT K H sw ws ∧ Prq K H ws es ∧ SwOk rs es ∧
  ∀ t H', H t = none → Same H H' → (∃ xs, H' t = some (.tup xs)) → Q (.ref t) H'
theorem ok_groups {f : Addr} {fd fdA fdL : FuncData} (F : Fun K "groups_of" "groups_of" sGroups f fd) (T : TxtG mg) (gA : mg "all_reached" = some (.ref fA)) (FA : Fun K "all_reached" "all_reached" sReached fA fdA) (bA : Binds K fdA ["grid", "switches"] []) (gL : mg "later_groups" = some (.ref fL)) (FL : Fun K "later_groups" "later_groups" sLater fL fdL) (bL : Binds K fdL ["many", "numbers", "switches"] []) :
    FnOk P w K mg base CX0 2 f fd ["grid", "switches"] (spGroups K) := by
  have GA : FnOk P w K mg base CX0 1 fA fdA ["grid", "switches"] (spReached K) := ok_reached FA T
  have GL : FnOk P w K mg base CX0 1 fL fdL ["many", "numbers", "switches"] (spLater K) := ok_later FL T
  refine F.ok scGo (fun vs H Q E h => ?_) (fun cdv A outer s H vs Q E hr h => ?_)
  · obtain ⟨p, sw, as, rs, ws, es, d, rfl, _⟩ := h
    rfl
  obtain ⟨p, sw, as, rs, ws, es, d, rfl, hp, rw1, nd, l12, rd, d9, hsw, pq, ok, q⟩ := h
  have ll := rw1.length
  have hu := hu_of hr
  refine ⟨_, pss_cons (ps_set (i := 2) scGo.nd rfl (Or.inr rfl) (pe_call GA hr (by rfl) gA FA.kp bA .nil pass0 (pa_cons (pv 0) (pa_cons (pv 1) pa_nil))))
    (pss_cons (ps_set (i := 3) scGo.nd rfl (Or.inr rfl) (pe_callTy (call_list_dK (by rfl)) (by rfl) T.list (by decide +kernel) (pa_cons
      (pe_dc (own := [("bits", 7)]) (g := gName 7) (by rfl) scGo.nd (pi_list (pv 2)) (blkOk_by (own := [("bits", 7)]) (N := NGo) (sc := defScope sGroups) (by decide +kernel))
        (fun _ _ _ _ _ => pg_name (i := 7) scGo.nd rfl (by first | exact Or.inl rfl | exact Or.inr rfl)) (fun _ _ _ _ _ => pts_nil) (fun _ _ _ _ _ => pv 7) (fun _ _ _ _ _ => pe_bl)) pa_nil)))
    (pss_cons (ps_setDcT (i := 4) (own := [("standing", 8), ("bits", 7)]) (g := gTup K 2 (gCons (gName 8) (gCons (gName 7) gNil))) (tv := tBM K "list" (rIndex K) (tVar 3) (tCons (tVar 7) tNil)) (by rfl) hu scGo.nd rfl rfl (sw_dict rfl rfl rfl (by decide +kernel)) (pi_zu (by rfl) T.zip (pa_cons (pv 0) (pa_cons (pv 2) pa_nil))) (blkOk_by (own := [("standing", 8), ("bits", 7)]) (N := NGo) (sc := defScope sGroups) (by decide +kernel))
      (fun _ _ _ _ _ => pg_tup rfl (pgs_cons (pg_name (i := 8) scGo.nd rfl (by first | exact Or.inl rfl | exact Or.inr rfl)) (pgs_cons (pg_name (i := 7) scGo.nd rfl (by first | exact Or.inl rfl | exact Or.inr rfl)) pgs_nil))) (fun _ _ _ _ _ => pv 8)
      (fun _ _ _ _ _ => pe_bm PySem.F.plainAttrs_list PySem.F.slot_list_index PySem.F.type_list_index (show MtR _ "list.index" (rIndex K) from mt_index) (pv 3) (pa_cons (pv 7) pa_nil)))
    (pss_cons (ps_setLc (i := 5) (own := [("same", 9)]) (g := gName 9) (by rfl) scGo.nd rfl rfl (sw_true rfl rfl rfl (by decide +kernel)) (pi_list (pv 3)) (blkOk_by (own := [("same", 9)]) (N := NGo) (sc := defScope sGroups) (by decide +kernel))
      (fun _ _ _ _ _ => pg_name (i := 9) scGo.nd rfl (by first | exact Or.inl rfl | exact Or.inr rfl)) (fun _ _ _ _ _ => pts_nil)
      (fun _ _ _ _ _ => pe_lc (own := [("standing", 8), ("bits", 7)]) (g := gTup K 2 (gCons (gName 8) (gCons (gName 7) gNil))) (wi := iZU K (tCons (tVar 0) (tCons (tVar 2) tNil))) (by rfl) scGo.nd (pi_zu (by rfl) T.zip (pa_cons (pv 0) (pa_cons (pv 2) pa_nil))) (BlkOk.rel (blkOk_by (own := [("standing", 8), ("bits", 7)]) (N := NGo) (by decide +kernel)))
        (fun _ _ _ _ _ => pg_tup rfl (pgs_cons (pg_name (i := 8) scGo.nd rfl (by first | exact Or.inl rfl | exact Or.inr rfl)) (pgs_cons (pg_name (i := 7) scGo.nd rfl (by first | exact Or.inl rfl | exact Or.inr rfl)) pgs_nil)))
        (fun _ _ _ _ _ => pts_one (pt_cmpR op_eq (pv 7) (pv 9) (nomark _))) (fun _ _ _ _ _ => pv 8)))
    (pss_cons (ps_setLc (i := 6) (own := [("group", 11)]) (g := gName 11) (by rfl) scGo.nd rfl rfl (sw_true rfl rfl rfl (by decide +kernel)) (pi_list (pv 5)) (blkOk_by (own := [("group", 11)]) (N := NGo) (sc := defScope sGroups) (by decide +kernel))
      (fun _ _ _ _ _ => pg_name (i := 11) scGo.nd rfl (by first | exact Or.inl rfl | exact Or.inr rfl)) (fun _ _ _ _ _ => pts_nil)
      (fun _ _ _ _ _ => pe_lc (own := [("values", 10)]) (g := gName 10) (wi := iZN K (tVar 11)) (by rfl) scGo.nd (pi_zn (by rfl) T.zip (pv 11)) (BlkOk.rel (blkOk_by (own := [("values", 10)]) (N := NGo) (by decide +kernel)))
        (fun _ _ _ _ _ => pg_name (i := 10) scGo.nd rfl (by first | exact Or.inl rfl | exact Or.inr rfl)) (fun _ _ _ _ _ => pts_nil)
        (fun _ _ _ _ _ => pe_callB (show CallR _ (.builtin "sorted") (rSortedSet w) from by exact cr_sortedSet (by rfl)) (by rfl) T.sorted (by decide +kernel) (pa_cons (pe_callTy (show CallR _ (.type "set") (rSetI K w) from by exact cr_setI (by rfl)) (by rfl) T.set (by decide +kernel) (pa_cons (pv 10) pa_nil)) pa_nil))))
    (pss_one (ps_ret (pe_tup (pa_cons (pv 4) (pa_cons (pe_call GL hr (by rfl) gL FL.kp bL .nil pass0 (pa_cons (pe_callB call_len_seq (by rfl) T.len PySem.boot_len (pa_cons (pv 5) pa_nil)) (pa_cons (pv 4) (pa_cons (pv 1) pa_nil)))) (pa_cons (pv 6) pa_nil)))))))))), ?_⟩
  refine ⟨_, rfl, _, rfl, p, sw, as, rs, ws, es, rfl, hp, rw1, nd, by omega, hsw, pq, ok, fun U H1 hU s1 gU => ?_⟩
  have lu : (reachedL rs es).length = rs.length := reached_len
  have wf : ∀ zs : List (List Int), zs.Nodup → (∀ z ∈ zs, z ∈ es.map (wayN rs (numsG (reachedL rs es)))) → zs.length ≤ 76 := fun zs n1 n2 => ways_few nd ok l12 n1 n2
  generalize reachedL rs es = us at gU lu wf
  have ln : (natV us).length = us.length := List.length_map ..
  have dm := ddG_mem us
  have dl := (ddG_le us).1
  -- the different ones
  refine ⟨_, rfl, U, rfl, ⟨_, SqL.of gU⟩, fun D hD => ?_⟩
  refine dc_it (walk_list (xs := natV us)) (fun i H2 => Same H1 H2 ∧ H2 D = some (.dK (ddK (us.take i)))) ⟨Same.upd hD, upd_same⟩ (fun i H2 _ ⟨s2, _⟩ => SqL.of (s2 _ _ gU)) ?_ ?_
  · rintro i x H2 H3 hi ⟨s2, g2⟩ ⟨eH, hx⟩
    have eH := eH.symm
    subst eH
    have hx : (natV us)[i]? = some x := hx
    rw [List.getElem?_map] at hx
    obtain ⟨u, hu1, rfl⟩ := Option.map_eq_some_iff.mp hx
    refine ⟨rfl, tyes ⟨_, rfl, _, .inl ((u : Nat) : Int), rfl, g2, ?_, fun c o hc => ?_, ?_⟩⟩
    · unfold ddK
      rw [List.length_map]
      have := (ddG_le (us.take i)).1
      rw [List.length_take] at this
      exact small1000 (by omega)
    · rw [upd_ne (ne_of_none hc hD)]; exact s2 c o hc
    · rw [upd_same, ddK_put, List.take_succ, hu1]; rfl
  · rintro H2 ⟨s2, g2⟩
    rw [ln, List.take_length] at g2
    refine ⟨D, _, rfl, g2, fun L hL => ?_⟩
    have eL : (ddK us).map (fun kv => kV kv.1) = natV (ddG us) := by unfold ddK; rw [List.map_map]; rfl
    rw [eL]
    have sL : Same H2 (upd H2 L (.lst (natV (ddG us)))) := Same.upd hL
    have gL' : (upd H2 L (.lst (natV (ddG us)))) L = some (.lst (natV (ddG us))) := upd_same
    generalize upd H2 L (.lst (natV (ddG us))) = H3 at sL gL' ⊢
    have s3 : Same H H3 := s1.trans (s2.trans sL)
    have gU3 : H3 U = some (.lst (natV us)) := sL _ _ (s2 _ _ gU)
    have lm : (as.map V.ref).length = rs.length := by rw [List.length_map, ll]
    -- the numbers
    refine ⟨_, rfl, _, rfl, p, U, _, _, rfl, Same.seqT s3 hp, SqL.of gU3, fun N hN => ?_⟩
    refine dcT_it (walk_zu (n := rs.length) (by omega)) (fun i H4 => Same H3 H4 ∧ H4 N = some (.dT (rowTab (rs.take i) (natV ((numsG us).take i))))) ⟨Same.upd hN, upd_same⟩ (fun i H4 _ ⟨s4, _⟩ => ⟨Same.seqT (s3.trans s4) hp, SqL.of (s4 _ _ gU3)⟩) ?_ ?_
    · rintro i x H4 H5 hi ⟨s4, g4⟩ ⟨TT, x1, x2, rfl, hT, rfl, e1, e2⟩
      have e1 : (as.map V.ref)[i]? = some x1 := e1
      have e2 : (natV us)[i]? = some x2 := e2
      rw [List.getElem?_map] at e1 e2
      obtain ⟨b, hb, rfl⟩ := Option.map_eq_some_iff.mp e1
      obtain ⟨u, hu1, rfl⟩ := Option.map_eq_some_iff.mp e2
      obtain ⟨r, hr1, hb1⟩ := rw1.get hb
      have um : u ∈ ddG us := (dm u).mpr (List.mem_of_getElem? hu1)
      have sT : Same H4 (upd H4 TT (.tup [.ref b, .int ((u : Nat) : Int)])) := Same.upd hT
      have no : r ∉ rs.take i := fun hm => by
        obtain ⟨j, hj⟩ := List.mem_iff_getElem?.mp hm
        rw [List.getElem?_take] at hj
        split at hj
        · rename_i hji
          have := idx_of nd hj
          have := idx_of nd hr1
          omega
        · cases hj
      have lnn : (numsG us).length = us.length := by unfold numsG; rw [List.length_map]
      have li : (rs.take i).length = (natV ((numsG us).take i)).length := by rw [List.length_map, List.length_take, List.length_take, lnn, lu]
      have ti : rs.take (i + 1) = rs.take i ++ [r] := by rw [List.take_succ, hr1]; rfl
      have ki : natV ((numsG us).take (i + 1)) = natV ((numsG us).take i) ++ [V.int (((ddG us).idxOf u : Nat) : Int)] := by
        have : (numsG us)[i]? = some ((ddG us).idxOf u) := by
          unfold numsG
          rw [List.getElem?_map, hu1]; rfl
        rw [List.take_succ, this]
        exact List.map_append
      refine ⟨TT, _, rfl, .inl (.inl upd_same), rfl, _, _, rfl, _, _, rfl, rfl, rfl, ?_⟩
      refine ⟨_, rfl, _, rfl, .inl ⟨rfl, _, SqL.of (sT _ _ (s4 _ _ gL'))⟩, _, rfl, ?_⟩
      refine ⟨L, natV (ddG us), .int ((u : Nat) : Int), (ddG us).idxOf u, .int ((u : Nat) : Int), rfl, rfl, SqL.of (sT _ _ (s4 _ _ gL')), rfl, ?_, ?_, ?_, fun m z' hm hz => ?_, ?_⟩
      · rw [List.all_eq_true]
        intro v hv
        obtain ⟨y, _, rfl⟩ := List.mem_map.mp hv
        rfl
      · rw [List.getElem?_map, natIdx_at um]; rfl
      · show (((u : Nat) : Int) == ((u : Nat) : Int)) = true
        simp
      · rw [List.getElem?_map] at hz
        obtain ⟨y, hy, rfl⟩ := Option.map_eq_some_iff.mp hz
        show (((y : Nat) : Int) == ((u : Nat) : Int)) = false
        have ne : y ≠ u := fun e => by
          subst e
          obtain ⟨h1, h2⟩ := List.getElem?_eq_some_iff.mp hy
          obtain ⟨h3, h4⟩ := List.getElem?_eq_some_iff.mp (natIdx_at um)
          have := (List.getElem_inj (ddG_nodup us)).mp (h2.trans h4.symm)
          omega
        have ne2 : ((y : Nat) : Int) ≠ ((u : Nat) : Int) := fun e => ne (by omega)
        simpa using ne2
      · refine ⟨_, rowK r, b, rfl, by rw [rowK_V]; exact sT _ _ (s4 _ _ (s3 _ _ hb1)), sT _ _ g4, ?_, fun c o hc => ?_, ?_⟩
        · rw [rowTab_len li, List.length_take]
          exact small1000 (by omega)
        · rw [upd_ne (ne_of_none hc hN)]; exact sT _ _ (s4 c o hc)
        · rw [upd_same, rowTab_put no li, ti, ki]
    · rintro H4 ⟨s4, g4⟩
      have lnn : (numsG us).length = us.length := by unfold numsG; rw [List.length_map]
      rw [List.take_length, List.take_of_length_le (by omega)] at g4
      have s04 : Same H H4 := s3.trans s4
      have gL4 : H4 L = some (.lst (natV (ddG us))) := s4 _ _ gL'
      have gU4 := s4 _ _ gU3
      have rw4 : Rws H4 as rs := rw1.same fun b o _ e => s04 b o e
      -- the members
      refine ⟨_, rfl, L, rfl, ⟨_, SqL.of gL4⟩, fun M hM => ?_⟩
      refine lc_it (walk_list (xs := natV (ddG us))) (fun i H5 => Same H4 H5 ∧ ∃ gs : List Addr, H5 M = some (.lst (gs.map V.ref)) ∧ gs.length = i ∧ (∀ g ∈ gs, g ≠ M) ∧ MemAt H5 d gs) ⟨Same.upd hM, [], upd_same, rfl, (fun g hg => nomatch hg), fun g hg => nomatch hg⟩ (fun i H5 _ ⟨s5, _⟩ => SqL.of (s5 _ _ gL4)) ?_ ?_
      · rintro i x H5 H6 hi ⟨s5, gs, g5, lg, nM, ma⟩ ⟨eH, hx⟩
        have eH := eH.symm
        subst eH
        have hx : (natV (ddG us))[i]? = some x := hx
        rw [List.getElem?_map] at hx
        obtain ⟨y, hy, rfl⟩ := Option.map_eq_some_iff.mp hx
        have yu : y ∈ us := (dm y).mp (List.mem_of_getElem? hy)
        refine ⟨rfl, tyes ?_⟩
        refine ⟨_, rfl, _, rfl, p, U, _, _, rfl, Same.seqT (s04.trans s5) hp, SqL.of (s5 _ _ gU4), fun E1 hE1 => ?_⟩
        refine lc_it (walk_zu (n := rs.length) (by omega)) (fun j H6 => Same H5 H6 ∧ ∃ zs : List (Addr × List Int), H6 E1 = some (.lst (zs.map fun p => V.ref p.1)) ∧ zs.length ≤ j ∧ (∀ p ∈ zs, H6 p.1 = some (.tup (p.2.map V.int)) ∧ p.2 ∈ rs) ∧ ∀ k, k < j → us[k]? = some y → zs ≠ [])
          ⟨Same.upd hE1, [], upd_same, Nat.le_refl _, (fun p hp => nomatch hp), fun k hk => absurd hk (Nat.not_lt_zero _)⟩ (fun j H6 _ ⟨s6, _⟩ => ⟨Same.seqT ((s04.trans s5).trans s6) hp, SqL.of (s6 _ _ (s5 _ _ gU4))⟩) ?_ ?_
        · rintro j x H6 H7 hj ⟨s6, zs, g6, lz, at6, ne6⟩ ⟨TT, x1, x2, rfl, hT, rfl, e1, e2⟩
          have e1 : (as.map V.ref)[j]? = some x1 := e1
          have e2 : (natV us)[j]? = some x2 := e2
          rw [List.getElem?_map] at e1 e2
          obtain ⟨b, hb, rfl⟩ := Option.map_eq_some_iff.mp e1
          obtain ⟨u, hu1, rfl⟩ := Option.map_eq_some_iff.mp e2
          obtain ⟨r, hr1, hb1⟩ := rw4.get hb
          have sT : Same H6 (upd H6 TT (.tup [.ref b, .int ((u : Nat) : Int)])) := Same.upd hT
          have gT : (upd H6 TT (.tup [.ref b, .int ((u : Nat) : Int)])) TT = some (.tup [.ref b, .int ((u : Nat) : Int)]) := upd_same
          generalize upd H6 TT (.tup [.ref b, .int ((u : Nat) : Int)]) = H7 at sT gT ⊢
          have g7 := sT _ _ g6
          refine ⟨TT, _, rfl, .inl (.inl gT), rfl, _, _, rfl, _, _, rfl, rfl, rfl, ?_⟩
          refine ⟨_, rfl, _, rfl, rfl, _, rfl, ?_⟩
          by_cases c : u = y
          · subst c
            refine ifT (decide_eq_true rfl) ⟨_, rfl, _, g7, ?_, fun c o hc => ?_, zs ++ [(b, r)], ?_, by rw [List.length_append]; simp; omega, fun q' hq => ?_, fun k _ _ e => by simp at e⟩
            · rw [List.length_map]; exact small1000 (by omega)
            · rw [upd_ne (ne_of_none hc hE1)]; exact sT _ _ (s6 c o hc)
            · rw [upd_same, List.map_append]; rfl
            · rcases List.mem_append.mp hq with hq | hq
              · obtain ⟨h1, h2⟩ := at6 q' hq
                have h3 := sT _ _ h1
                refine ⟨?_, h2⟩
                rw [upd_ne (fun z => by rw [z, g7] at h3; cases h3)]; exact h3
              · rw [List.mem_singleton.mp hq]
                have h3 := sT _ _ (s6 _ _ (s5 _ _ hb1))
                refine ⟨?_, List.mem_of_getElem? hr1⟩
                show (upd H7 E1 _) b = some (.tup (r.map V.int))
                rw [upd_ne (fun z => by rw [z, g7] at h3; cases h3)]; exact h3
          · refine ifF (decide_eq_false fun z => c (by injection z with z; omega)) ⟨s6.trans sT, zs, g7, by omega, fun q' hq => ⟨sT _ _ (at6 q' hq).1, (at6 q' hq).2⟩, fun k hk hky => ?_⟩
            rcases Nat.lt_or_ge k j with lt | ge
            · exact ne6 k lt hky
            · obtain rfl : k = j := by omega
              rw [hu1] at hky
              exact absurd (Option.some.inj hky) c
        · rintro H6 ⟨s6, zs, g6, lz, at6, ne6⟩
          obtain ⟨k, hk⟩ := List.mem_iff_getElem?.mp yu
          have nz : zs ≠ [] := ne6 k (by have := (List.getElem?_eq_some_iff.mp hk).1; omega) hk
          have g6' := s6 _ _ g5
          have nE : E1 ≠ M := fun z => by rw [z, g5] at hE1; cases hE1
          refine ⟨_, g6', small1000 (by rw [List.length_map]; have : i < (natV (ddG us)).length := hi; rw [List.length_map] at this; omega), fun c o hc => ?_, gs ++ [E1], ?_, by rw [List.length_append, lg]; rfl, fun g hg => ?_, fun g hg => ?_⟩
          · rw [upd_ne (ne_of_none hc hM)]; exact s6 _ _ (s5 c o hc)
          · rw [upd_same, List.map_append]; rfl
          · rcases List.mem_append.mp hg with hg | hg
            · exact nM g hg
            · rw [List.mem_singleton.mp hg]; exact nE
          · have up : ∀ q' : Addr × List Int, H6 q'.1 = some (.tup (q'.2.map V.int)) → (upd H6 M (.lst (gs.map V.ref ++ [V.ref E1]))) q'.1 = some (.tup (q'.2.map V.int)) := fun q' h => by
              rw [upd_ne (fun z => by rw [z, g6'] at h; cases h)]; exact h
            rcases List.mem_append.mp hg with hg | hg
            · obtain ⟨zs', h1, h2, h3, h4⟩ := ma g hg
              exact ⟨zs', by rw [upd_ne (nM g hg)]; exact s6 _ _ h1, h2, h3, fun q' hq => ⟨up q' (s6 _ _ (h4 q' hq).1), (h4 q' hq).2⟩⟩
            · rw [List.mem_singleton.mp hg]
              exact ⟨zs, by rw [upd_ne nE]; exact g6, nz, by omega, fun q' hq => ⟨up q' (at6 q' hq).1, rd _ (at6 q' hq).2⟩⟩
      · rintro H5 ⟨s5, gs, g5, lg, nM, ma⟩
        -- the readings
        refine ⟨_, rfl, M, rfl, ⟨_, SqL.of g5⟩, fun R hR => ?_⟩
        refine lc_it (walk_list (xs := gs.map V.ref)) (fun i H6 => Same H5 H6 ∧ ∃ cs : List V, H6 R = some (.lst cs) ∧ cs.length = i) ⟨Same.upd hR, [], upd_same, rfl⟩ (fun i H6 _ ⟨s6, _⟩ => SqL.of (s6 _ _ g5)) ?_ ?_
        · rintro i x H6 H7 hi ⟨s6, cs, g6, lc⟩ ⟨eH, hx⟩
          have eH := eH.symm
          subst eH
          have hx : (gs.map V.ref)[i]? = some x := hx
          rw [List.getElem?_map] at hx
          obtain ⟨g, hg, rfl⟩ := Option.map_eq_some_iff.mp hx
          obtain ⟨zs, h1, h2, h3, h4⟩ := ma g (List.mem_of_getElem? hg)
          refine ⟨rfl, tyes ?_⟩
          refine ⟨_, rfl, g, zs, d, rfl, SqL.of (s6 _ _ h1), fun q' hq => .inl (.inl (s6 _ _ (h4 q' hq).1)), fun q' hq => (h4 q' hq).2, h2, h3, fun E1 hE1 => ?_⟩
          refine lc_it walk_zn (fun j H8 => Same H6 H8 ∧ ∃ ds : List V, H8 E1 = some (.lst ds) ∧ ds.length = j) ⟨Same.upd hE1, [], upd_same, rfl⟩ (fun j H8 _ ⟨s8, _⟩ q' hq => .inl (.inl (s8 _ _ (s6 _ _ (h4 q' hq).1)))) ?_ ?_
          · rintro j x H8 H9 hj ⟨s8, ds, g8, ld⟩ ⟨TT, rfl, hT, rfl⟩
            have sT : Same H8 (upd H8 TT (.tup ((zs.map fun p => p.2.getD j 0).map V.int))) := Same.upd hT
            have gT : (upd H8 TT (.tup ((zs.map fun p => p.2.getD j 0).map V.int))) TT = some (.tup ((zs.map fun p => p.2.getD j 0).map V.int)) := upd_same
            generalize upd H8 TT (.tup ((zs.map fun p => p.2.getD j 0).map V.int)) = H9 at sT gT ⊢
            refine ⟨rfl, tyes ?_⟩
            have lz : (zs.map fun p => p.2.getD j 0).length = zs.length := List.length_map ..
            refine ⟨_, rfl, TT, _, rfl, .inl (.inl gT), by rw [lz]; omega, fun a c ha hc => ?_⟩
            refine ⟨a, _, c, rfl, upd_same, by rw [lz] at hc; omega, fun ns' p' _ _ _ hp' => ?_⟩
            have s10 : Same H9 (upd (upd H9 a (SetO w a (fun k => decide (k ∈ zs.map fun p => p.2.getD j 0)) c)) p' (.lst (ns'.map V.int))) := (Same.upd ha).trans (Same.upd hp')
            refine ⟨_, s10 _ _ (sT _ _ g8), small1000 (by omega), fun c' o hc' => ?_, ds ++ [V.ref p'], by rw [upd_same], by rw [List.length_append, ld]; rfl⟩
            rw [upd_ne (ne_of_none hc' hE1)]
            exact s10 _ _ (sT _ _ (s8 c' o hc'))
          · rintro H8 ⟨s8, ds, g8, ld⟩
            refine ⟨_, s8 _ _ g6, small1000 (by have : i < (gs.map V.ref).length := hi; rw [List.length_map, lg, List.length_map] at this; omega), fun c o hc => ?_, cs ++ [V.ref E1], by rw [upd_same], by rw [List.length_append, lc]; rfl⟩
            rw [upd_ne (ne_of_none hc hR)]
            exact s8 _ _ (s6 c o hc)
        · rintro H6 ⟨s6, cs, g6, lc⟩
          have s06 := s04.trans (s5.trans s6)
          have lgs : gs.length ≤ 900 := by rw [lg, List.length_map]; omega
          refine ⟨_, rfl, _, rfl, M, _, rfl, .inl (SqL.of (s6 _ _ g5)), _, rfl, _, rfl, ?_⟩
          refine ⟨(gs.map V.ref).length, N, sw, rs, numsG us, ws, es, rfl, by rw [List.length_map]; exact lgs, s6 _ _ (s5 _ _ g4), nd, by rw [lnn, lu], Same.seqT s06 hsw, pq.same s06, ok, wf, fun G gs2 H7 hG s7 g7 lg2 la => ?_⟩
          refine ⟨_, rfl, (by show 3 ≤ sizeLine; decide), fun t ht => ?_⟩
          exact q t _ (Same.free (s06.trans s7) ht) ((s06.trans s7).trans (Same.upd ht)) ⟨_, upd_same⟩
end
end Ms
namespace Ms
open PySem PySem.Spec PyProof.Rows L2
/-! ### switches that are right, told as pairs of standings -/
theorem dataLt_self' (d : PyData) : PySem.W.dataLt d d = false := lex_irrefl _
theorem dataLt_trans' {a b c : PyData} (h1 : PySem.W.dataLt a b = true) (h2 : PySem.W.dataLt b c = true) : PySem.W.dataLt a c = true := lex_trans _ _ _ h1 h2
theorem firstW_up {Pd : PyData → Bool} : ∀ (ds : List PyData) (prev : Option PyData) (n : Nat), firstW Pd prev n ds = none → (∀ d ∈ ds, Pd d = true) ∧ ds.Pairwise (fun a b => PySem.W.dataLt a b = true) ∧ ∀ e, prev = some e → ∀ d ∈ ds, PySem.W.dataLt e d = true
  | [], _, _, _ => ⟨(fun d hd => nomatch hd), .nil, (fun e _ d hd => nomatch hd)⟩
  | d :: ds, prev, n, h => by
    cases prev with
    | none =>
      have h' : (if (Pd d && true) = true then firstW Pd (some d) (n + 1) ds else some n) = none := h
      by_cases c : (Pd d && true) = true
      · rw [if_pos c] at h'
        obtain ⟨i1, i2, i3⟩ := firstW_up ds (some d) (n + 1) h'
        refine ⟨fun x hx => ?_, List.pairwise_cons.mpr ⟨i3 d rfl, i2⟩, (fun e he => nomatch he)⟩
        rcases List.mem_cons.mp hx with rfl | hx
        · simpa using c
        · exact i1 x hx
      · rw [if_neg c] at h'
        cases h'
    | some e =>
      have h' : (if (Pd d && PySem.W.dataLt e d) = true then firstW Pd (some d) (n + 1) ds else some n) = none := h
      by_cases c : (Pd d && PySem.W.dataLt e d) = true
      · rw [if_pos c] at h'
        obtain ⟨i1, i2, i3⟩ := firstW_up ds (some d) (n + 1) h'
        rw [Bool.and_eq_true] at c
        refine ⟨fun x hx => ?_, List.pairwise_cons.mpr ⟨i3 d rfl, i2⟩, fun e' he x hx => ?_⟩
        · rcases List.mem_cons.mp hx with rfl | hx
          · exact c.1
          · exact i1 x hx
        · cases he
          rcases List.mem_cons.mp hx with rfl | hx
          · exact c.2
          · exact dataLt_trans' c.2 (i3 d rfl x hx)
      · rw [if_neg c] at h'
        cases h'
theorem switch_pr {qs : List (Str × Int)} (h0 : ∀ q ∈ qs, 0 ≤ q.2) {d : PyData} (h : switchD qs d = true) : ∃ r s : List Int, d = pairD r s ∧ r ∈ grid qs ∧ s ∈ grid qs ∧ r ≠ s := by
  obtain ⟨a, b, rfl, ha, hb, ne⟩ := switch_two h
  obtain ⟨r, rfl, hr⟩ := stand_st ha
  obtain ⟨s, rfl, hs⟩ := stand_st hb
  refine ⟨r, s, rfl, (mem_grid h0).mpr hr, (mem_grid h0).mpr hs, fun e => ?_⟩
  have e2 : PyData.eqv (rowD r) (rowD s) = false := ne
  rw [eqv_rowD, e] at e2
  simp at e2
theorem pairD_inj {r s r' s' : List Int} (h : pairD r s = pairD r' s') : r = r' ∧ s = s' := by
  have key : ∀ {x y : List Int}, rowD x = rowD y → x = y := fun {x y} e => by
    have e2 := eqv_rowD x y
    rw [e, eqv_rowD] at e2
    simpa using e2.symm
  injection h with h
  injection h with h1 h
  injection h with h2 _
  exact ⟨key h1, key h2⟩
section
variable {K : PySem.W.Frag} {H : Hp} {m l : Addr}
theorem ints_of_dq : ∀ {ns : List Int} {vs : List V}, DqAll K H m l vs (ns.map PyData.int) → vs = ns.map V.int
  | [], _, h => by cases h; rfl
  | n :: ns, _, h => by
    cases h with
    | cons h1 h2 =>
      cases h1
      rw [ints_of_dq h2]; rfl
theorem row_of_dq {v : V} {r : List Int} (h : Dq K H m l v (rowD r)) : ∃ a, v = .ref a ∧ SqT K H a (r.map V.int) := by
  cases h with
  | tup e t => exact ⟨_, rfl, by rw [ints_of_dq t] at e; exact e⟩
theorem sw_prq {qs : List (Str × Int)} (h0 : ∀ q ∈ qs, 0 ≤ q.2) : ∀ {ds : List PyData} {vs : List V}, DqAll K H m l vs ds → (∀ d ∈ ds, switchD qs d = true) → ∃ es, Prq K H vs es ∧ ds = es.map (fun q => pairD q.1 q.2) ∧ ∀ e ∈ es, e.1 ∈ grid qs ∧ e.2 ∈ grid qs ∧ e.1 ≠ e.2
  | [], _, h, _ => by cases h; exact ⟨[], .nil, rfl, (fun e he => nomatch he)⟩
  | d :: ds, _, h, hd => by
    cases h with
    | cons h1 h2 =>
      obtain ⟨es, p, e, f⟩ := sw_prq h0 h2 fun x hx => hd x (List.mem_cons_of_mem _ hx)
      obtain ⟨r, s, rfl, hr, hs, ne⟩ := switch_pr h0 (hd d List.mem_cons_self)
      cases h1 with
      | tup e1 t1 =>
        cases t1 with
        | cons t1 t2 =>
          cases t2 with
          | cons t2 t3 =>
            cases t3
            obtain ⟨a, rfl, ha⟩ := row_of_dq t1
            obtain ⟨b, rfl, hb⟩ := row_of_dq t2
            refine ⟨(r, s) :: es, .cons e1 ha hb p, by rw [List.map_cons, e], fun y hy => ?_⟩
            rcases List.mem_cons.mp hy with rfl | hy
            · exact ⟨hr, hs, ne⟩
            · exact f y hy
/-- switches that need_switches lets by -/
theorem switches_ok {qs : List (Str × Int)} (h0 : ∀ q ∈ qs, 0 ≤ q.2) {v : V} {d : PyData} (hd : Dq K H m l v d) (hn : needW (switchD qs) d = none) (few : ∀ ds, d = .tuple ds → ds.length ≤ 100000) : ∃ a ws es, v = .ref a ∧ SqT K H a ws ∧ Prq K H ws es ∧ SwOk (grid qs) es ∧ d = .tuple (es.map fun q => pairD q.1 q.2) := by
  cases d with
  | tuple ds =>
    cases hd with
    | tup e t =>
      have h' : (firstW (switchD qs) none 0 ds).map (fun p => V.int (p : Nat)) = none := hn
      have h2 : firstW (switchD qs) none 0 ds = none := by
        cases q : firstW (switchD qs) none 0 ds with
        | none => rfl
        | some p => rw [q] at h'; cases h'
      obtain ⟨i1, i2, _⟩ := firstW_up ds none 0 h2
      obtain ⟨es, p, rfl, f⟩ := sw_prq h0 t i1
      have ll := few _ rfl
      rw [List.length_map] at ll
      refine ⟨_, _, es, rfl, e, p, ⟨?_, fun y hy => (f y hy).1, fun y hy => (f y hy).2.1, fun y hy => (f y hy).2.2, ll⟩, rfl⟩
      have np := List.pairwise_map.mp i2
      exact np.imp fun {a b} h e => by rw [e, dataLt_self'] at h; cases h
  | _ => cases hn
end
/-! the grid has each row once -/
theorem widen_nodup {rs : List (List Int)} (h : rs.Nodup) (n : Nat) : (widen rs n).Nodup := by
  induction rs with
  | nil => exact .nil
  | cons r rs ih =>
    obtain ⟨h1, h2⟩ := List.nodup_cons.mp h
    show (((List.range n).map fun (v : Nat) => r ++ [(v : Int)]) ++ widen rs n).Nodup
    refine List.nodup_append.mpr ⟨List.pairwise_map.mpr (List.Pairwise.imp (fun {a b} ne e => ?_) List.nodup_range), ih h2, fun a ha b hb e => ?_⟩
    · have := List.append_cancel_left e
      simp at this
      exact ne (by omega)
    · obtain ⟨v, _, rfl⟩ := List.mem_map.mp ha
      obtain ⟨r2, hr2, hb⟩ := List.mem_flatMap.mp hb
      obtain ⟨u, _, rfl⟩ := List.mem_map.mp hb
      have l := congrArg List.dropLast e
      rw [List.dropLast_concat, List.dropLast_concat] at l
      exact h1 (by rw [l]; exact hr2)
theorem grid_nodup (qs : List (Str × Int)) : (grid qs).Nodup := by
  have key : ∀ (qs : List (Str × Int)) (rs : List (List Int)), rs.Nodup → (qs.foldl (fun rs q => widen rs (q.2 + 1).toNat) rs).Nodup := by
    intro qs
    induction qs with
    | nil => intro rs h; exact h
    | cons q qs ih => intro rs h; exact ih _ (widen_nodup h _)
  exact key qs _ (by simp)
end Ms
namespace Ms
open PySem PySem.Spec PyProof.Rows L2
/-! ### Book.__init__ -/
theorem dueGo_more : ∀ (qs : List (Str × Int)) (p : Nat) (seen : List Str) (mny r : Int), dueGo p seen mny (prD qs) = .inr r → (∀ q ∈ qs, 1 ≤ q.2 ∧ q.2 ≤ 3) ∧ r = qs.foldl (fun m q => m * (q.2 + 1)) mny
  | [], p, seen, mny, r, h => by
    have h' : (Sum.inr mny : Sum Nat Int) = .inr r := h
    exact ⟨(fun q hq => nomatch hq), (Sum.inr.inj h').symm⟩
  | q :: qs, p, seen, mny, r, h => by
    have h' : (match oneD (.tuple [.str q.1, .int q.2]) with
      | none => .inl p
      | some (z, c) => if z ∈ seen then .inl p else dueGo (p + 1) (seen ++ [z]) (mny * (c + 1)) (prD qs)) = (Sum.inr r : Sum Nat Int) := h
    by_cases hh : (isName (.str q.1) && isWhole (.int q.2) 1 3) = true
    · have eo : oneD (.tuple [.str q.1, .int q.2]) = some (q.1, q.2) := if_pos hh
      rw [eo] at h'
      simp only at h'
      by_cases hz : q.1 ∈ seen
      · rw [if_pos hz] at h'; cases h'
      · rw [if_neg hz] at h'
        obtain ⟨b, e⟩ := dueGo_more qs _ _ _ _ h'
        have h2 := (Bool.and_eq_true _ _ ▸ hh : _ ∧ _).2
        have h3 := (Bool.and_eq_true _ _ ▸ h2 : _ ∧ _)
        refine ⟨fun y hy => ?_, e⟩
        rcases List.mem_cons.mp hy with rfl | hy
        · exact ⟨of_decide_eq_true h3.1, of_decide_eq_true h3.2⟩
        · exact b y hy
    · have eo : oneD (.tuple [.str q.1, .int q.2]) = none := if_neg hh
      rw [eo] at h'
      cases h'
theorem needV_more {qs : List (Str × Int)} (h : needV (.tuple (prD qs)) = none) : (∀ q ∈ qs, 1 ≤ q.2 ∧ q.2 ≤ 3) ∧ (grid qs).length ≤ 12 ∧ qs.length ≤ 3 := by
  have h' : (if 1 ≤ (prD qs).length ∧ (prD qs).length ≤ 3 then (match dueGo 0 [] 1 (prD qs) with | .inl p => some (V.int (p : Nat)) | .inr many => if many ≤ 12 then none else some (.str "many")) else some V.non) = none := h
  have pl := prD_len qs
  by_cases hl : 1 ≤ (prD qs).length ∧ (prD qs).length ≤ 3
  · rw [if_pos hl] at h'
    cases eg : dueGo 0 [] 1 (prD qs) with
    | inl p => rw [eg] at h'; cases h'
    | inr mny =>
      obtain ⟨b, e⟩ := dueGo_more qs _ _ _ _ eg
      rw [eg] at h'
      simp only at h'
      by_cases h12 : mny ≤ 12
      · have g := grid_many qs b
        have g2 : many qs = mny := e.symm
        exact ⟨b, by omega, by omega⟩
      · rw [if_neg h12] at h'; cases h'
  · rw [if_neg hl] at h'; cases h'
theorem grid_rowB {qs : List (Str × Int)} : ∀ r ∈ grid qs, r.length = qs.length := fun r hr => by
  have := fold_row (k := 0) qs [[]] 0 (fun r h => by rw [List.mem_singleton.mp h]; rfl) r hr
  omega
def startsD (qs : List (Str × Int)) (d : PyData) : PyData := match d with | .none => gridD qs | d => d
def switchesD (qs : List (Str × Int)) (d : PyData) : PyData := match d with | .none => .tuple (nearDs (grid qs) (grid qs)) | d => d
structure BookC (K : PySem.W.Frag) (C : Addr) : Prop where
  cl : Cls K C
  nS : NoAttr K C "settings"
  nG : NoAttr K C "grid"
  nT : NoAttr K C "starts"
  nW : NoAttr K C "switches"
  nQ : NoAttr K C "groups"
def bookF (v1 v2 v3 v4 v5 : V) : List (Str × V) := [("settings", v1), ("grid", v2), ("starts", v3), ("switches", v4), ("groups", v5)]
abbrev NBk : List Str := ["self", "settings", "starts", "switches"]
theorem scBk : FnScope NBk NBk (defScope sBookIni) := ⟨rfl, rfl, rfl, by decide +kernel, rfl, by decide +kernel, by decide +kernel⟩
/-- behind the first two fields -/
structure BkS (K : PySem.W.Frag) (H : Hp) (m l C x dx a : Addr) (xs : List V) (qs : List (Str × Int)) (p : Addr) (as : List Addr) : Prop where
  x : H x = some (.ins C dx [("settings", .ref a), ("grid", .ref p)])
  s : SqT K H a xs
  sd : PrTs K H xs qs
  p : H p = some (.tup (as.map V.ref))
  r : Rws H as (grid qs)
  l12 : as.length ≤ 12
  l3 : qs.length ≤ 3
  l1 : 1 ≤ qs.length
  b : ∀ q ∈ qs, 1 ≤ q.2 ∧ q.2 ≤ 3
theorem BkS.same {K : PySem.W.Frag} {H H' : Hp} {m l C x dx a : Addr} {xs : List V} {qs : List (Str × Int)} {p : Addr} {as : List Addr} (k : Same H H') (S : BkS K H m l C x dx a xs qs p as) : BkS K H' m l C x dx a xs qs p as :=
  ⟨k _ _ S.x, Same.seqT k S.s, PrTs.same k S.sd, k _ _ S.p, Rws.same (fun b o _ e => k b o e) S.r, S.l12, S.l3, S.l1, S.b⟩
theorem prTs_sameX {K : PySem.W.Frag} {x C dx : Addr} {fs : List (Str × V)} {H H' : Hp} (k : SameX x H H') (hx : H x = some (.ins C dx fs)) {vs : List V} {qs : List (Str × Int)} (p : PrTs K H vs qs) : PrTs K H' vs qs := by
  induction p with
  | nil => exact .nil
  | cons h _ ih =>
    obtain ⟨b, e, hb⟩ := h
    exact .cons ⟨b, e, k.seqT hx hb⟩ ih
theorem Rws.sameT {H H' : Hp} {as : List Addr} {rs : List (List Int)} (k : ∀ b ys, H b = some (.tup ys) → H' b = some (.tup ys)) (p : Rws H as rs) : Rws H' as rs := by
  induction p with
  | nil => exact .nil
  | cons h _ ih => exact .cons (k _ _ h) ih
theorem rows_dq {K : PySem.W.Frag} {H : Hp} {m l : Addr} : ∀ {as : List Addr} {rs : List (List Int)}, Rws H as rs → DqAll K H m l (as.map V.ref) (rs.map rowD)
  | [], _, h => by cases h; exact .nil
  | a :: as, _, h => by
    cases h with
    | cons h1 h2 => exact .cons (.tup (.inl (.inl h1)) (ints_dq _)) (rows_dq h2)
def shortD (d : PyData) : Prop := ∀ ds, d = .tuple ds → ds.length ≤ 100000
section
variable {P : Program} {w : World} {K : PySem.W.Frag} {mg : Str → Option Value} {base : Heap} {fNT fNW fNe fGr C CT CW f : Addr} {fdNT fdNW fdNe fdGr : FuncData} {cdv : Value} {A : Around} {outer : List Env} {s : Shared} {H0 : Hp} {E : XK} {qual : Str}
theorem book_end (BC : BookC K C) (gNT : mg "need_starts" = some (.ref fNT)) (gNW : mg "need_switches" = some (.ref fNW))
    (FNT : Fun K "need_starts" "need_starts" sNStarts fNT fdNT) (bNT : Binds K fdNT ["settings", "starts"] []) (GNT : FnOk P w K mg base (L2.CX P w) 4 fNT fdNT ["settings", "starts"] (spNW K CT standD))
    (FNW : Fun K "need_switches" "need_switches" sNSwitches fNW fdNW) (bNW : Binds K fdNW ["settings", "switches"] []) (GNW : FnOk P w K mg base (L2.CX P w) 4 fNW fdNW ["settings", "switches"] (spNW K CW switchD))
    (gGr : mg "groups_of" = some (.ref fGr)) (FGr : Fun K "groups_of" "groups_of" sGroups fGr fdGr) (bGr : Binds K fdGr ["grid", "switches"] []) (GGr : FnOk P w K mg base CX0 2 fGr fdGr ["grid", "switches"] (spGroups K))
    (hr : Room 4 (A.deeper (envOfC qual (defScope sBookIni) s.heap.objs.size f cdv))) :
    ∃ t, PSs (cxOf (L2.CX P w) P w K mg base NBk qual (defScope sBookIni) f cdv A outer s H0 E) ((defBody sBookIni).drop 4) t ∧ ∀ (D : Ends) (H1 : Hp) (m l x dx a : Addr) (xs : List V) (qs : List (Str × Int)) (p : Addr) (as : List Addr) (v2 v3 : V) (d2 d3 : PyData),
      BkS K H1 m l C x dx a xs qs p as → Dq K H1 m l v2 d2 → shortD d2 → Dq K H1 m l v3 d3 → shortD d3 →
      (∀ u, needW (standD qs) d2 = some u → ∀ e H', H1 e = none → Same H1 H' → H' e = some (.xd [("place", u)]) → E (.ref CT) (some e) H') →
      (needW (standD qs) d2 = none → ∀ u, needW (switchD qs) d3 = some u → ∀ e H', H1 e = none → SameX x H1 H' → H' e = some (.xd [("place", u)]) → E (.ref CW) (some e) H') →
      (needW (standD qs) d2 = none → needW (switchD qs) d3 = none → ∀ σ vg H', SameX x H1 H' → H' x = some (.ins C dx (bookF (.ref a) (.ref p) v2 v3 vg)) → Dq K H' m l v2 d2 → Dq K H' m l v3 d3 → D.nx σ H') →
      t D [some (.ref x), some (.ref a), some v2, some v3] H1 := by
  have hr2 : Room 2 (A.deeper (envOfC qual (defScope sBookIni) s.heap.objs.size f cdv)) := hr.mono (by decide)
  refine ⟨_, pss_cons (ps_fld (pv 0) (pe_call GNT hr (by rfl) gNT FNT.kp bNT .nil (passes_call (takes_of rfl rfl rfl rfl) fun _ _ _ _ h => h) (pa_cons (pv 1) (pa_cons (pv 2) pa_nil))) rfl)
    (pss_cons (ps_fld (pv 0) (pe_call GNW hr (by rfl) gNW FNW.kp bNW .nil (passes_call (takes_of rfl rfl rfl rfl) fun _ _ _ _ h => h) (pa_cons (pv 1) (pa_cons (pv 3) pa_nil))) rfl)
    (pss_one (ps_fld (pv 0) (pe_call GGr hr2 (by rfl) gGr FGr.kp bGr .nil pass0 (pa_cons (pe_fld (pv 0) rfl) (pa_cons (pe_fld (pv 0) rfl) pa_nil))) rfl))), ?_⟩
  intro D H1 m l x dx a xs qs p as v2 v3 d2 d3 S h2 l2 h3 l3 e2 e3 q
  have q3 := S.l3
  refine ⟨_, rfl, _, rfl, m, l, a, xs, qs, v2, d2, rfl, S.s, S.sd, by omega, h2, l2, fun n2 H2 s2 => ?_, fun u hu e H' hh1 hh2 hh3 => e2 u hu e H' hh1 hh2 hh3⟩
  have x2 := s2 _ _ S.x
  refine ⟨_, rfl, x, C, dx, _, rfl, x2, BC.cl, BC.nT, (by show 2 < 1000; decide), ?_⟩
  generalize eG : upd H2 x (.ins C dx (putF "starts" v2 [("settings", .ref a), ("grid", .ref p)])) = G2
  have x3 : G2 x = some (.ins C dx [("settings", .ref a), ("grid", .ref p), ("starts", v2)]) := by rw [← eG]; exact upd_same
  have k2 : SameX x H1 G2 := by rw [← eG]; exact SameX.thenU (fun b o _ e => s2 b o e)
  have hx1 := S.x
  refine ⟨_, rfl, _, rfl, m, l, a, xs, qs, v3, d3, rfl, k2.seqT hx1 S.s, prTs_sameX k2 hx1 S.sd, by omega, k2.dq hx1 _ _ h3, l3, fun n3 H3 s3 => ?_, fun u hu e H' hh1 hh2 hh3 => e3 n2 u hu e H' (k2.free (by rw [x3]; exact fun z => nomatch z) hh1) (k2.thenS hh2) hh3⟩
  have x4 := s3 _ _ x3
  refine ⟨_, rfl, x, C, dx, _, rfl, x4, BC.cl, BC.nW, (by show 3 < 1000; decide), ?_⟩
  have k3 : SameX x H1 (upd H3 x (.ins C dx (putF "switches" v3 [("settings", .ref a), ("grid", .ref p), ("starts", v2)]))) := (k2.thenS s3).thenU
  have x5 : (upd H3 x (.ins C dx (putF "switches" v3 [("settings", .ref a), ("grid", .ref p), ("starts", v2)]))) x = some (.ins C dx [("settings", .ref a), ("grid", .ref p), ("starts", v2), ("switches", v3)]) := upd_same
  generalize upd H3 x (.ins C dx (putF "switches" v3 [("settings", .ref a), ("grid", .ref p), ("starts", v2)])) = G3 at k3 x5 ⊢
  have dq3 := k3.dq hx1 _ _ h3
  obtain ⟨sw, ws, es, rfl, hsw, pq, ok, _⟩ := switches_ok (fun q hq => by have := (S.b q hq).1; omega) dq3 n3 l3
  have npx : p ≠ x := fun z => by
    have := S.p
    rw [z, S.x] at this
    cases this
  have rw5 : Rws G3 as (grid qs) := Rws.sameT (fun b ys e => k3 b _ (fun z => by rw [z, S.x] at e; cases e) e) S.r
  have lgr : (grid qs).length ≤ 12 := by have := S.r.length; have := S.l12; omega
  refine ⟨_, rfl, x, C, dx, _, _, rfl, x5, BC.cl, BC.nG, rfl, _, rfl, x, C, dx, _, _, rfl, x5, BC.cl, BC.nW, rfl, ?_⟩
  refine ⟨p, sw, as, grid qs, ws, es, qs.length, rfl, .inl (.inl (k3 _ _ npx S.p)), rw5, grid_nodup qs, lgr, grid_rowB, by omega, hsw, pq, ok, fun t H5 ht s5 _ => ?_⟩
  have x6 := s5 _ _ x5
  refine ⟨_, rfl, x, C, dx, _, rfl, x6, BC.cl, BC.nQ, (by show 4 < 1000; decide), ?_⟩
  have k6 : SameX x H1 (upd H5 x (.ins C dx (putF "groups" (.ref t) [("settings", .ref a), ("grid", .ref p), ("starts", v2), ("switches", .ref sw)]))) := (k3.thenS s5).thenU
  exact q n2 n3 _ _ _ k6 upd_same (k6.dq hx1 _ _ h2) (k6.dq hx1 _ _ h3)
end
end Ms
namespace Ms
open PySem PySem.Spec PyProof.Rows L2
/-! ### Book.__init__, the whole -/
def spBook (K : PySem.W.Frag) (C CS CT CW : Addr) : Sp := fun vs H Q E => ∃ (m l x dx : Addr) (v1 v2 v3 : V) (d1 d2 d3 : PyData) (B1 b1 : Nat), vs = [.ref x, v1, v2, v3] ∧ H x = some (.ins C dx []) ∧ Dq K H m l v1 d1 ∧ Gd B1 100000 b1 d1 ∧ Dq K H m l v2 d2 ∧ shortD d2 ∧ Dq K H m l v3 d3 ∧ shortD d3 ∧
  (∀ u, needV d1 = some u → ∀ e H', H e = none → SameX x H H' → H' e = some (.xd [("place", u)]) → E (.ref CS) (some e) H') ∧
  (needV d1 = none → ∀ qs, d1 = .tuple (prD qs) → (∀ u, needW (standD qs) (startsD qs d2) = some u → ∀ e H', H e = none → SameX x H H' → H' e = some (.xd [("place", u)]) → E (.ref CT) (some e) H') ∧
    (needW (standD qs) (startsD qs d2) = none → (∀ u, needW (switchD qs) (switchesD qs d3) = some u → ∀ e H', H e = none → SameX x H H' → H' e = some (.xd [("place", u)]) → E (.ref CW) (some e) H') ∧
      (needW (switchD qs) (switchesD qs d3) = none → ∀ H' p v2' v3' vg, SameX x H H' → H' x = some (.ins C dx (bookF v1 (.ref p) v2' v3' vg)) → Dq K H' m l (.ref p) (gridD qs) → Dq K H' m l v2' (startsD qs d2) → Dq K H' m l v3' (switchesD qs d3) → Q .non H')))
section
variable {P : Program} {w : World} {K : PySem.W.Frag} {mg : Str → Option Value} {base : Heap} {fI fN fS fA fG fNd fNT fNW fNe C CS CT CW f : Addr} {fdNT fdNW fdNe : FuncData} {cdv : Value} {A : Around} {outer : List Env} {s : Shared} {H0 : Hp} {E : XK} {qual : Str}
theorem book_sw {tT : TS} (BC : BookC K C) (gNe : mg "near_pairs" = some (.ref fNe)) (FNe : Fun K "near_pairs" "near_pairs" sNear fNe fdNe) (bNe : Binds K fdNe ["settings", "grid"] []) (GNe : FnOk P w K mg base CX0 3 fNe fdNe ["settings", "grid"] (spNear K))
    (hr : Room 4 (A.deeper (envOfC qual (defScope sBookIni) s.heap.objs.size f cdv)))
    (dT : PSs (cxOf (L2.CX P w) P w K mg base NBk qual (defScope sBookIni) f cdv A outer s H0 E) ((defBody sBookIni).drop 4) tT)
    (zT : ∀ (D : Ends) (H1 : Hp) (m l x dx a : Addr) (xs : List V) (qs : List (Str × Int)) (p : Addr) (as : List Addr) (v2 v3 : V) (d2 d3 : PyData),
      BkS K H1 m l C x dx a xs qs p as → Dq K H1 m l v2 d2 → shortD d2 → Dq K H1 m l v3 d3 → shortD d3 →
      (∀ u, needW (standD qs) d2 = some u → ∀ e H', H1 e = none → Same H1 H' → H' e = some (.xd [("place", u)]) → E (.ref CT) (some e) H') →
      (needW (standD qs) d2 = none → ∀ u, needW (switchD qs) d3 = some u → ∀ e H', H1 e = none → SameX x H1 H' → H' e = some (.xd [("place", u)]) → E (.ref CW) (some e) H') →
      (needW (standD qs) d2 = none → needW (switchD qs) d3 = none → ∀ σ vg H', SameX x H1 H' → H' x = some (.ins C dx (bookF (.ref a) (.ref p) v2 v3 vg)) → Dq K H' m l v2 d2 → Dq K H' m l v3 d3 → D.nx σ H') →
      tT D [some (.ref x), some (.ref a), some v2, some v3] H1) :
    ∃ t, PSs (cxOf (L2.CX P w) P w K mg base NBk qual (defScope sBookIni) f cdv A outer s H0 E) ((defBody sBookIni).drop 3) t ∧ ∀ (D : Ends) (H1 : Hp) (m l x dx a : Addr) (xs : List V) (qs : List (Str × Int)) (p : Addr) (as : List Addr) (v2 v3 : V) (d2 d3 : PyData),
      BkS K H1 m l C x dx a xs qs p as → Dq K H1 m l v2 d2 → shortD d2 → Dq K H1 m l v3 d3 → shortD d3 →
      (∀ u, needW (standD qs) d2 = some u → ∀ e H', H1 e = none → Same H1 H' → H' e = some (.xd [("place", u)]) → E (.ref CT) (some e) H') →
      (needW (standD qs) d2 = none → ∀ u, needW (switchD qs) (switchesD qs d3) = some u → ∀ e H', H1 e = none → SameX x H1 H' → H' e = some (.xd [("place", u)]) → E (.ref CW) (some e) H') →
      (needW (standD qs) d2 = none → needW (switchD qs) (switchesD qs d3) = none → ∀ σ v3' vg H', SameX x H1 H' → H' x = some (.ins C dx (bookF (.ref a) (.ref p) v2 v3' vg)) → Dq K H' m l v2 d2 → Dq K H' m l v3' (switchesD qs d3) → D.nx σ H') →
      t D [some (.ref x), some (.ref a), some v2, some v3] H1 := by
  have hr3 : Room 3 (A.deeper (envOfC qual (defScope sBookIni) s.heap.objs.size f cdv)) := hr.mono (by decide)
  refine ⟨_, pss_cons (ps_if (pt_cmpR op_isN (pv 3) pe_non (nomark _)) (pss_one (ps_set (i := 3) scBk.nd rfl (by first | exact Or.inl rfl | exact Or.inr rfl) (pe_call GNe hr3 (by rfl) gNe FNe.kp bNe .nil pass0 (pa_cons (pv 1) (pa_cons (pe_fld (pv 0) rfl) pa_nil))))) pss_nil) dT, ?_⟩
  intro D H1 m l x dx a xs qs p as v2 v3 d2 d3 S h2 l2 h3 l3 e2 e3 q
  cases d3 with
  | none =>
    cases h3
    refine ⟨_, rfl, rfl, _, rfl, ifT rfl ?_⟩
    have lr := S.r.length
    have lgr : (grid qs).length ≤ 12 := by have := S.l12; omega
    refine ⟨_, rfl, _, rfl, x, C, dx, _, _, rfl, S.x, BC.cl, BC.nG, rfl, a, p, xs, qs, as, grid qs, rfl, S.s, S.sd, by have := S.l3; omega, .inl (.inl S.p), S.r, grid_rowB, by omega, fun p2 ys2 H2 hp2 s2 gp2 pas => ?_⟩
    have S2 := S.same s2
    have hd : Dq K H2 m l (.ref p2) (.tuple (nearDs (grid qs) (grid qs))) := .tup (.inl (.inl gp2)) (by rw [← nearPs_D ⟨S.l1, S.l3⟩ S.b lgr]; exact pas.dq)
    have hl : shortD (.tuple (nearDs (grid qs) (grid qs))) := fun ds e => by
      cases e
      have h1 := nearDs_le (grid qs) (grid qs)
      have h2 : (grid qs).length ≤ 12 := by have := S.l12; omega
      have h3 : (grid qs).length * (grid qs).length ≤ 12 * 12 := Nat.mul_le_mul h2 h2
      omega
    exact zT D H2 m l x dx a xs qs p as v2 (.ref p2) d2 _ S2 (Dq.same s2 _ _ h2) l2 hd hl (fun u hu e H' z1 z2 z3 => e2 u hu e H' (Same.free s2 z1) (s2.trans z2) z3)
      (fun n u hu e H' z1 z2 z3 => e3 n u hu e H' (Same.free s2 z1) (fun b o nb hb => z2 b o nb (s2 _ _ hb)) z3)
      (fun n1 n2 σ vg H' z1 z2 z3 z4 => q n1 n2 σ _ vg H' (fun b o nb hb => z1 b o nb (s2 _ _ hb)) z2 z3 z4)
  | _ =>
    cases h3 <;> refine ⟨_, rfl, rfl, _, rfl, ifF rfl ?_⟩ <;> refine zT D H1 m l x dx a xs qs p as v2 _ d2 _ S h2 l2 ?_ l3 e2 e3 (fun n1 n2 σ vg H' z1 z2 z3 z4 => q n1 n2 σ _ vg H' z1 z2 z3 z4) <;> first | exact .bl _ | exact .int _ | exact .str _ | exact .lst (by assumption) (by assumption) (by assumption) (by assumption) | exact .tup (by assumption) (by assumption) | exact .dct (by assumption) (by assumption) (by assumption)
theorem book_st {tT : TS} (BC : BookC K C)
    (dT : PSs (cxOf (L2.CX P w) P w K mg base NBk qual (defScope sBookIni) f cdv A outer s H0 E) ((defBody sBookIni).drop 3) tT)
    (zT : ∀ (D : Ends) (H1 : Hp) (m l x dx a : Addr) (xs : List V) (qs : List (Str × Int)) (p : Addr) (as : List Addr) (v2 v3 : V) (d2 d3 : PyData),
      BkS K H1 m l C x dx a xs qs p as → Dq K H1 m l v2 d2 → shortD d2 → Dq K H1 m l v3 d3 → shortD d3 →
      (∀ u, needW (standD qs) d2 = some u → ∀ e H', H1 e = none → Same H1 H' → H' e = some (.xd [("place", u)]) → E (.ref CT) (some e) H') →
      (needW (standD qs) d2 = none → ∀ u, needW (switchD qs) (switchesD qs d3) = some u → ∀ e H', H1 e = none → SameX x H1 H' → H' e = some (.xd [("place", u)]) → E (.ref CW) (some e) H') →
      (needW (standD qs) d2 = none → needW (switchD qs) (switchesD qs d3) = none → ∀ σ v3' vg H', SameX x H1 H' → H' x = some (.ins C dx (bookF (.ref a) (.ref p) v2 v3' vg)) → Dq K H' m l v2 d2 → Dq K H' m l v3' (switchesD qs d3) → D.nx σ H') →
      tT D [some (.ref x), some (.ref a), some v2, some v3] H1) :
    ∃ t, PSs (cxOf (L2.CX P w) P w K mg base NBk qual (defScope sBookIni) f cdv A outer s H0 E) ((defBody sBookIni).drop 2) t ∧ ∀ (D : Ends) (H1 : Hp) (m l x dx a : Addr) (xs : List V) (qs : List (Str × Int)) (p : Addr) (as : List Addr) (v2 v3 : V) (d2 d3 : PyData),
      BkS K H1 m l C x dx a xs qs p as → Dq K H1 m l v2 d2 → shortD d2 → Dq K H1 m l v3 d3 → shortD d3 →
      (∀ u, needW (standD qs) (startsD qs d2) = some u → ∀ e H', H1 e = none → Same H1 H' → H' e = some (.xd [("place", u)]) → E (.ref CT) (some e) H') →
      (needW (standD qs) (startsD qs d2) = none → ∀ u, needW (switchD qs) (switchesD qs d3) = some u → ∀ e H', H1 e = none → SameX x H1 H' → H' e = some (.xd [("place", u)]) → E (.ref CW) (some e) H') →
      (needW (standD qs) (startsD qs d2) = none → needW (switchD qs) (switchesD qs d3) = none → ∀ σ v2' v3' vg H', SameX x H1 H' → H' x = some (.ins C dx (bookF (.ref a) (.ref p) v2' v3' vg)) → Dq K H' m l v2' (startsD qs d2) → Dq K H' m l v3' (switchesD qs d3) → D.nx σ H') →
      t D [some (.ref x), some (.ref a), some v2, some v3] H1 := by
  refine ⟨_, pss_cons (ps_if (pt_cmpR op_isN (pv 2) pe_non (nomark _)) (pss_one (ps_set (i := 2) scBk.nd rfl (by first | exact Or.inl rfl | exact Or.inr rfl) (pe_fld (pv 0) rfl))) pss_nil) dT, ?_⟩
  intro D H1 m l x dx a xs qs p as v2 v3 d2 d3 S h2 l2 h3 l3 e2 e3 q
  cases d2 with
  | none =>
    cases h2
    refine ⟨_, rfl, rfl, _, rfl, ifT rfl ?_⟩
    refine ⟨_, rfl, x, C, dx, _, _, rfl, S.x, BC.cl, BC.nG, rfl, ?_⟩
    have hd : Dq K H1 m l (.ref p) (gridD qs) := .tup (.inl (.inl S.p)) (rows_dq S.r)
    have lr := S.r.length
    have hl : shortD (gridD qs) := fun ds e => by
      have e' : (grid qs).map rowD = ds := PyData.tuple.inj e
      have h2 : ds.length = (grid qs).length := by rw [← e', List.length_map]
      have := S.l12
      omega
    exact zT D H1 m l x dx a xs qs p as (.ref p) v3 _ d3 S hd hl h3 l3 e2 e3 (fun n1 n2 σ v3' vg H' z1 z2 z3 z4 => q n1 n2 σ _ v3' vg H' z1 z2 z3 z4)
  | _ =>
    cases h2 <;> refine ⟨_, rfl, rfl, _, rfl, ifF rfl ?_⟩ <;> refine zT D H1 m l x dx a xs qs p as _ v3 _ d3 S ?_ l2 h3 l3 e2 e3 (fun n1 n2 σ v3' vg H' z1 z2 z3 z4 => q n1 n2 σ _ v3' vg H' z1 z2 z3 z4) <;> first | exact .bl _ | exact .int _ | exact .str _ | exact .lst (by assumption) (by assumption) (by assumption) (by assumption) | exact .tup (by assumption) (by assumption) | exact .dct (by assumption) (by assumption) (by assumption)
end
end Ms
namespace Ms
open PySem PySem.Spec PyProof.Rows L2
/-! ### Book.__init__ keeps its promise -/
theorem needV_one {qs : List (Str × Int)} (h : needV (.tuple (prD qs)) = none) : 1 ≤ qs.length := by
  have h' : (if 1 ≤ (prD qs).length ∧ (prD qs).length ≤ 3 then (match dueGo 0 [] 1 (prD qs) with | .inl p => some (V.int (p : Nat)) | .inr many => if many ≤ 12 then none else some (.str "many")) else some V.non) = none := h
  have pl := prD_len qs
  by_cases hl : 1 ≤ (prD qs).length ∧ (prD qs).length ≤ 3
  · omega
  · rw [if_neg hl] at h'; cases h'
section
variable {P : Program} {w : World} {K : PySem.W.Frag} {mg : Str → Option Value} {base : Heap} {fI fN fS fA fG fNd fSt fSw fFw fMv fNr fGr fAr fLt fNT fNW fNe fES fET fEW C CS CT CW f : Addr}
theorem ok_bookini {fd fdI fdN fdS fdA fdG fdNd fdSt fdSw fdFw fdMv fdNr fdGr fdAr fdLt fdNT fdNW fdNe fdES fdET fdEW : FuncData} {q1 q2 q3 qual : Str} {kws : List (Str × V)} (F : FunD K "__init__" qual (defArgs sBookIni) (defBody sBookIni) (defScope sBookIni) [] kws f fd) (T : TxtP mg fI fN fS fA fG) (BC : BookC K C)
    (hz : mg "zip" = none) (TG : TxtG mg) (gNd : mg "need_settings" = some (.ref fNd)) (gSt : mg "is_standing" = some (.ref fSt)) (gSw : mg "is_switch" = some (.ref fSw)) (gFw : mg "first_wrong" = some (.ref fFw)) (gMv : mg "moved" = some (.ref fMv)) (gNr : mg "near_to" = some (.ref fNr)) (gGr : mg "groups_of" = some (.ref fGr)) (gAr : mg "all_reached" = some (.ref fAr)) (gLt : mg "later_groups" = some (.ref fLt))
    (gNT : mg "need_starts" = some (.ref fNT)) (gNW : mg "need_switches" = some (.ref fNW)) (gNe : mg "near_pairs" = some (.ref fNe))
    (gS : mg "BadSettings" = some (.ref CS)) (TS : ErrC K CS fES) (gT : mg "BadStarts" = some (.ref CT)) (TT : ErrC K CT fET) (gW : mg "BadSwitches" = some (.ref CW)) (TW : ErrC K CW fEW)
    (FES : Fun K "__init__" q1 sIni fES fdES) (bES : Binds K fdES ["self", "place"] []) (FET : Fun K "__init__" q2 sIniSt fET fdET) (bET : Binds K fdET ["self", "place"] []) (FEW : Fun K "__init__" q3 sIniSw fEW fdEW) (bEW : Binds K fdEW ["self", "place"] [])
    (FI : Fun K "is_int" "is_int" sPInt fI fdI) (bI : Binds K fdI ["thing"] []) (FN : Fun K "is_name" "is_name" sPName fN fdN) (bN : Binds K fdN ["thing"] []) (FS : Fun K "is_setting" "is_setting" sPSet fS fdS) (bS : Binds K fdS ["thing"] [])
    (FA : Fun K "names_of" "names_of" sPNames fA fdA) (bA : Binds K fdA ["settings"] []) (FG : Fun K "grid_of" "grid_of" sPGrid fG fdG) (bG : Binds K fdG ["settings"] []) (FNd : Fun K "need_settings" "need_settings" sNeed fNd fdNd) (bNd : Binds K fdNd ["thing"] [])
    (FSt : Fun K "is_standing" "is_standing" sPStand fSt fdSt) (bSt : Binds K fdSt ["settings", "thing"] []) (FSw : Fun K "is_switch" "is_switch" sPSwitch fSw fdSw) (bSw : Binds K fdSw ["settings", "thing"] []) (FFw : Fun K "first_wrong" "first_wrong" sFirstW fFw fdFw) (bFw : Binds K fdFw ["things", "good"] [])
    (FMv : Fun K "moved" "moved" sMoved fMv fdMv) (bMv : Binds K fdMv ["standing", "at", "way"] []) (FNr : Fun K "near_to" "near_to" sNearTo fNr fdNr) (bNr : Binds K fdNr ["settings", "standing"] []) (FNe : Fun K "near_pairs" "near_pairs" sNear fNe fdNe) (bNe : Binds K fdNe ["settings", "grid"] [])
    (FGr : Fun K "groups_of" "groups_of" sGroups fGr fdGr) (bGr : Binds K fdGr ["grid", "switches"] []) (FAr : Fun K "all_reached" "all_reached" sReached fAr fdAr) (bAr : Binds K fdAr ["grid", "switches"] []) (FLt : Fun K "later_groups" "later_groups" sLater fLt fdLt) (bLt : Binds K fdLt ["many", "numbers", "switches"] [])
    (FNT : Fun K "need_starts" "need_starts" sNStarts fNT fdNT) (bNT : Binds K fdNT ["settings", "starts"] []) (FNW : Fun K "need_switches" "need_switches" sNSwitches fNW fdNW) (bNW : Binds K fdNW ["settings", "switches"] []) :
    FnOk P w K mg base (L2.CX P w) 5 f fd ["self", "settings", "starts", "switches"] (spBook K C CS CT CW) := by
  have GNd : FnOk P w K mg base (L2.CX P w) 3 fNd fdNd ["thing"] (spNeed K CS) := ok_need FNd T gS TS FI bI FN bN FS bS FA bA FG bG FES bES
  have GG : FnOk P w K mg base CX0 1 fG fdG ["settings"] (spPGrid K) := ok_pgrid FG T
  have GNT : FnOk P w K mg base (L2.CX P w) 4 fNT fdNT ["settings", "starts"] (spNW K CT standD) := ok_needSt (fdSw := fdSt) FNT T hz gSt gFw gT TT FI bI FSt bSt FFw bFw FET bET
  have GNW : FnOk P w K mg base (L2.CX P w) 4 fNW fdNW ["settings", "switches"] (spNW K CW switchD) := ok_needSw FNW T hz gSt gSw gFw gW TW FI bI FSt bSt FSw bSw FFw bFw FEW bEW
  have GNe : FnOk P w K mg base CX0 3 fNe fdNe ["settings", "grid"] (spNear K) := ok_near FNe T.tuple T.enumerate gNr FNr bNr gMv FMv bMv
  have GGr : FnOk P w K mg base CX0 2 fGr fdGr ["grid", "switches"] (spGroups K) := ok_groups FGr TG gAr FAr bAr gLt FLt bLt
  refine FunD.ok F scBk (fun vs H Q E h => ?_) (fun cdv A outer s H vs Q E hr h => ?_)
  · obtain ⟨m, l, x, dx, v1, v2, v3, d1, d2, d3, B1, b1, rfl, _⟩ := h
    rfl
  obtain ⟨m, l, x, dx, v1, v2, v3, d1, d2, d3, B1, b1, rfl, hx, hd1, gd1, hd2, l2, hd3, l3, qe, qr⟩ := h
  have hr3 : Room 3 _ := hr.mono (by decide)
  have hr1 : Room 1 _ := hr.mono (by decide)
  obtain ⟨t1, d1', z1⟩ := book_end (H0 := H) (E := E) BC gNT gNW FNT bNT GNT FNW bNW GNW gGr FGr bGr GGr hr
  obtain ⟨t2, d2', z2⟩ := book_sw (H0 := H) (E := E) (CT := CT) (CW := CW) BC gNe FNe bNe GNe hr d1' z1
  obtain ⟨t3, d3', z3⟩ := book_st (H0 := H) (E := E) (CT := CT) (CW := CW) BC d2' z2
  clear z1 z2 d1' d2'
  refine ⟨_, pss_cons (ps_fld (pv 0) (pe_call GNd hr3 rfl gNd FNd.kp bNd .nil (passes_call (takes_of rfl rfl rfl rfl) fun _ _ _ _ h => h) (pa_cons (pv 1) pa_nil)) rfl)
    (pss_cons (ps_fld (pv 0) (pe_callTy call_tuple_of (by rfl) T.tuple (by decide +kernel) (pa_cons (pe_call GG hr1 (by rfl) T.gG FG.kp bG .nil pass0 (pa_cons (pv 1) pa_nil)) pa_nil)) rfl) d3'), ?_⟩
  refine ⟨_, rfl, m, l, v1, d1, B1, b1, rfl, hd1, gd1, fun hn H1 s1 => ?_, fun u hu e H' h1 h2 h3 => qe u hu e H' h1 (fun b o _ e => h2 b o e) h3⟩
  obtain ⟨qs, rfl, _, _⟩ := needV_pr hn
  obtain ⟨bq, g12, q3⟩ := needV_more hn
  have q1 : 1 ≤ qs.length := needV_one hn
  obtain ⟨qp, q⟩ := qr hn qs rfl
  have x1 : H1 x = some (.ins C dx []) := s1 _ _ hx
  refine ⟨_, rfl, x, C, dx, [], rfl, x1, BC.cl, BC.nS, (by show 0 < 1000; decide), ?_⟩
  obtain ⟨a, xs, rfl, hs, hxs⟩ : ∃ a xs, v1 = .ref a ∧ SqT K H a xs ∧ DqAll K H m l xs (prD qs) := by
    cases hd1 with
    | tup e t => exact ⟨_, _, rfl, e, t⟩
  have k1 : SameX x H (upd H1 x (.ins C dx (putF "settings" (.ref a) []))) := SameX.thenU (fun b o _ e => s1 b o e)
  generalize eH1 : upd H1 x (.ins C dx (putF "settings" (V.ref a) [])) = G1 at k1 ⊢
  have xg : G1 x = some (.ins C dx [("settings", V.ref a)]) := by rw [← eH1]; exact upd_same
  have pr1 : PrTs K G1 xs qs := prTs_sameX k1 hx (prD_trs qs xs hxs)
  refine ⟨_, rfl, a, xs, qs, rfl, k1.seqT hx hs, pr1, q3, bq, fun D as G2 hD s2 gD rw2 far => ⟨D, _, rfl, .inl ⟨SqL.of gD, fun p hp => ?_⟩⟩⟩
  have sp : Same G2 (upd G2 p (.tup (as.map V.ref))) := Same.upd hp
  have gp : (upd G2 p (.tup (as.map V.ref))) p = some (.tup (as.map V.ref)) := upd_same
  generalize upd G2 p (.tup (as.map V.ref)) = G3 at sp gp ⊢
  have s13 := s2.trans sp
  have x3 := s13 _ _ xg
  refine ⟨_, rfl, x, C, dx, _, rfl, x3, BC.cl, BC.nG, (by show 1 < 1000; decide), ?_⟩
  have k4 : SameX x H (upd G3 x (.ins C dx (putF "grid" (.ref p) [("settings", V.ref a)]))) := (k1.thenS s13).thenU
  have k34 : SameX x G3 (upd G3 x (.ins C dx (putF "grid" (.ref p) [("settings", V.ref a)]))) := SameX.thenU (SameX.refl x G3)
  generalize eH4 : upd G3 x (.ins C dx (putF "grid" (.ref p) [("settings", V.ref a)])) = G4 at k4 k34 ⊢
  have xg4 : G4 x = some (.ins C dx [("settings", V.ref a), ("grid", V.ref p)]) := by rw [← eH4]; exact upd_same
  have rw3 : Rws G3 as (grid qs) := Rws.same (fun b o _ e => sp b o e) rw2
  have npx : p ≠ x := fun z => by rw [z, x3] at gp; cases gp
  have rw4 : Rws G4 as (grid qs) := Rws.sameT (fun b ys e => k34 b _ (fun z => by rw [z, x3] at e; cases e) e) rw3
  have ll := rw4.length
  have S4 : BkS K G4 m l C x dx a xs qs p as := ⟨xg4, k4.seqT hx hs, prTs_sameX k4 hx (prD_trs qs xs hxs), k34 _ _ npx gp, rw4, by omega, q3, q1, bq⟩
  have fr4 : ∀ {e}, G4 e = none → H e = none := fun h => k4.free (by rw [xg4]; exact fun z => nomatch z) h
  exact z3 _ G4 m l x dx a xs qs p as v2 v3 d2 d3 S4 (k4.dq hx _ _ hd2) l2 (k4.dq hx _ _ hd3) l3
    (fun u hu e H' h1 h2 h3 => qp u hu e H' (fr4 h1) (k4.thenS h2) h3)
    (fun n u hu e H' h1 h2 h3 => (q n).1 u hu e H' (fr4 h1) (fun b o nb hb => h2 b o nb (k4 b o nb hb)) h3)
    (fun n1 n2 σ v2' v3' vg H' h1 h2 h3 h4 => (q n1).2 n2 H' p v2' v3' vg (fun b o nb hb => h1 b o nb (k4 b o nb hb)) h2 (h1.dq xg4 _ _ (.tup (.inl (.inl S4.p)) (rows_dq S4.r))) h3 h4)
end
end Ms
namespace Ms
open PySem PySem.Spec PyProof.Rows L2
/-! ### how a call of Book binds its keywords -/
abbrev kwBk : List (Str × V) := [("starts", .non), ("switches", .non)]
section
variable {K : PySem.W.Frag} {f : Addr} {fd : FuncData} {qual : Str}
theorem book_b0 (F : FunD K "__init__" qual (defArgs sBookIni) (defBody sBookIni) (defScope sBookIni) [] kwBk f fd) : ∃ ds, Vals [V.non, .non] ds ∧ Binds K fd NBk ds :=
  F.binds0 2 nofun rfl fun D doc pm an cdv ct us ks l1 l2 => match us, ks, l1, l2 with
    | [_, _], [_, _], _, _ => ⟨_, _, _, _, _, _, rfl, rfl, _, _, _, _, _, _, rfl, rfl, rfl⟩
theorem book_ks (F : FunD K "__init__" qual (defArgs sBookIni) (defBody sBookIni) (defScope sBookIni) [] kwBk f fd) : ∃ mv : List Value, KBn K fd NBk 2 ["starts", "switches"] (fun us ws => us ++ mv ++ ws) (fun vs zs => vs ++ [] ++ zs) :=
  F.kbinds0 2 ["starts", "switches"] [] (fun us mv ws => us ++ mv ++ ws) nofun nofun (fun r1 r2 r3 => (r1.append r2).append r3) fun D doc pm an cdv ct us mv ws l1 l2 l3 => match us, mv, ws, l1, l2, l3 with
    | [_, _], [], [_, _], _, _, _ => rfl
theorem book_kw (F : FunD K "__init__" qual (defArgs sBookIni) (defBody sBookIni) (defScope sBookIni) [] kwBk f fd) : ∃ mv : List Value, KBn K fd NBk 2 ["switches"] (fun us ws => us ++ mv ++ ws) (fun vs zs => vs ++ [V.non] ++ zs) :=
  F.kbinds0 2 ["switches"] [("starts", .non)] (fun us mv ws => us ++ mv ++ ws) nofun (fun q hq => by rw [List.mem_singleton.mp hq]; exact List.mem_cons_self ..) (fun r1 r2 r3 => (r1.append r2).append r3) fun D doc pm an cdv ct us mv ws l1 l2 l3 => match us, mv, ws, l1, l2, l3 with
    | [_, _], [_], [_], _, _, _ => ⟨_, _, _, _, _, _, rfl, rfl, rfl⟩
theorem book_kt (F : FunD K "__init__" qual (defArgs sBookIni) (defBody sBookIni) (defScope sBookIni) [] kwBk f fd) : ∃ mv : List Value, KBn K fd NBk 2 ["starts"] (fun us ws => us ++ ws ++ mv) (fun vs zs => vs ++ zs ++ [V.non]) :=
  F.kbinds0 2 ["starts"] [("switches", .non)] (fun us mv ws => us ++ ws ++ mv) nofun (fun q hq => by rw [List.mem_singleton.mp hq]; exact List.mem_cons_of_mem _ (List.mem_singleton.mpr rfl)) (fun r1 r2 r3 => (r1.append r3).append r2) fun D doc pm an cdv ct us mv ws l1 l2 l3 => match us, mv, ws, l1, l2, l3 with
    | [_, _], [_], [_], _, _, _ => ⟨_, _, _, _, _, _, rfl, rfl, rfl⟩
end
end Ms
namespace Ms
open PySem PySem.Spec PyProof.Rows L2
/-! ### try: several clauses, each with a name, one of which catches -/
abbrev Clause : Type := Value × (Addr → Value → Option Addr → TS)
/-- the ends of a suite: behind it the clause's name is gone -/
def unnamed (i : Nat) (D : Ends) : Ends := { nx := fun σ' H' => D.nx (σ'.set i none) H', rt := D.rt, bk := fun σ' H' => D.bk (σ'.set i none) H', ct := fun σ' H' => D.ct (σ'.set i none) H' }
def wishes (K : PySem.W.Frag) (i : Nat) (D : Ends) : List Clause → WX
  | [] => fun _ _ _ _ => False
  | p :: r => fun cls d σ H => ∃ hit, PySem.W.exmOne K cls p.1 = some hit ∧ (hit = true → ∀ a, H a = none → p.2 a cls d (unnamed i D) (σ.set i (some (.ref a))) H) ∧ (hit = false → wishes K i D r cls d σ H)
inductive Clauses (X : Cx) (n : Str) : List ExceptHandler → List Clause → Prop
  | last : Clauses X n [] []
  | more {x : Str} {c : Value} {ts : Addr → Value → Option Addr → TS} {st : Stmt} {rest : List Stmt} {q q' : Pos} {hds : List ExceptHandler} {l : List Clause} (hc : Names X x c)
      (suite : ∀ (a : Addr) (oe : Obj) (cls : Value) (d : Option Addr) (pn : List (Addr × Obj)), Zc cls d oe → (∃ vs, oe.data = .fields vs) → PSs (X.suite a ((a, oe) :: pn)) (st :: rest) (ts a cls d)) (r : Clauses X n hds l) :
      Clauses X n (.ExceptHandler (some (.Name x q)) (some n) (st :: rest) q' :: hds) ((c, ts) :: l)
section
variable {X : Cx} {n : Str} {i : Nat} {body : List Stmt} {h₀ : ExceptHandler} {hds : List ExceptHandler} {l : List Clause} {pos : Pos} {tb : WX → TS}
theorem ps_try_list (hs : X.stack = X.env :: X.outer) (hf : X.env.frame = some X.env.locals) (hN : X.N.Nodup) (hi : X.N[i]? = some n) (hln : X.env.kindOf n = some .local)
    (hb : ∀ (W : WX) (pn : List (Addr × Obj)) (xe : Value → Shared → Prop), Takes (X.tr pn xe) W → PassesOwn (model X.prog X.w) X.A X.env xe → PSs (X.tr pn xe) body (tb W))
    (cl : Clauses X n (h₀ :: hds) l) : PS X (.Try body (h₀ :: hds) [] [] pos) (fun D σ H => tb (wishes X.K i D l) D σ H) := by
  constructor
  intro pins s σ H D I reads
  have good := I.ok
  have frames : X.A.frames = some (X.env :: X.outer) := good.frames.trans (by rw [hs])
  have caught : Takes (X.tr (X.pn ++ pins) (fun e s₁ => wpAny (model X.prog X.w) X.A (noteFrame e X.env) (fun _ s₂ => wpAny (model X.prog X.w) X.A (setFlight e none) (fun _ s₃ =>
      wpAny (model X.prog X.w) X.A (handleBy e X.env (h₀ :: hds)) (SP X pins D) X.xe s₃) X.xe s₂) X.xe s₁)) (wishes X.K i D l) := by
    intro u s' air
    obtain ⟨a, B, sI, pins', σ', H', cls, d, rfl, It, nb, up, sky, free, os, bare, wish⟩ := air
    have I' : Inv X pins σ' H' sI := It.ofTry good
    show wpAny (model X.prog X.w) X.A (noteFrame (.ref a) X.env) _ _ _
    refine Sky.land Zc.steady frames hf (by rw [← hs]; exact sky) fun g fl upg => ?_
    have Ig : Inv X pins σ' H' { s' with heap := g } := I'.landed nb fl.1 (up.trans upg) os bare
    obtain ⟨oe, vs, at_, zc, fields⟩ := fl.there
    have apart : a ∉ frs (X.env :: X.outer) := fun hm => by
      obtain ⟨_, o', e', nd⟩ := fl.2.2.1.mem hm
      cases at_.symm.trans e'
      exact nd _ fields
    have noLocals : a ≠ X.env.locals := fun z => apart (List.mem_filterMap.mpr ⟨X.env, List.mem_cons_self, by rw [hf, z]⟩)
    have noFrame : a ∉ X.fs := fun hm => by
      obtain ⟨env, he, q⟩ := List.mem_filterMap.mp hm
      exact apart (List.mem_filterMap.mpr ⟨env, List.mem_cons_of_mem _ he, q⟩)
    have Sg := Ig.suite at_ fields free noLocals noFrame
    have looks : PySem.W.Looks (model X.prog X.w) g (typeOf (.ref a)) cls := fun A Q E t k q => wpAny_typeOf_ref (k _ _ at_) (by rw [zc.1]; exact q)
    have all : ∀ {hds' : List ExceptHandler} {l' : List Clause}, Clauses X n hds' l' → wishes X.K i D l' cls d σ' H' → wpAny (model X.prog X.w) X.A (handleBy (.ref a) X.env hds') (SP X pins D) X.xe { s' with heap := g } := by
      intro hds' l' cs
      induction cs with
      | last => exact fun w => w.elim
      | @more x c ts st rest q q' hds2 l2 hc suite r ih =>
        rintro ⟨hit, eq, yes, no⟩
        refine wpAny_handleBy_cons (codeAny_handlers_test ?_) (fun z => nomatch z)
        have isIt := PySem.W.exm_one (M := model X.prog X.w) Ig.kIn looks eq
        have named : ∀ {Q : Value → Shared → Prop} {E : Value → Shared → Prop}, Q c { s' with heap := g } → wpAny (model X.prog X.w) (X.A.mark (some (.ref a))) (eval (.Name x q) X.env) Q E { s' with heap := g } := fun {Q E} k => by
          obtain ⟨h1, h2, h3⟩ := hc
          cases h3 with
          | inl h3 => exact ld_glob (X := X.suite a ((a, oe) :: (X.pn ++ pins))) Sg h1 h3 k h2
          | inr h3 => exact ld_blt (X := X.suite a ((a, oe) :: (X.pn ++ pins))) Sg h1 h3.1 h3.2.1 k h3.2.2 h2
        refine named (isIt.here ?_)
        cases hit with
        | false =>
          show wpAny _ X.A (handleBy (.ref a) X.env hds2) _ _ _
          exact ih (no rfl)
        | true =>
          refine codeAny_handlers_suite_as (HandSPX.lands_againZ fl fun g2 fl2 up2 => ?_)
          have I2 : Inv X pins σ' H' { s' with heap := g2 } := I'.landed nb fl2.1 ((up.trans upg).trans up2) os bare
          obtain ⟨oe2, vs2, at2, zc2, fields2⟩ := fl2.there
          have S2 := I2.suite at2 fields2 free noLocals noFrame
          refine store_ok (X := X.suite a ((a, oe2) :: (X.pn ++ pins))) (v := .ref a) S2 hN hi (.inl hln) rfl (fun s5 S5 => ?_) (.inr hln)
          refine wpAny_mono ((suite a oe2 cls d (X.pn ++ pins) zc2 ⟨_, fields2⟩).run [] s5 _ H' _ S5 (yes rfl a free)) (fun f s6 hsp => ?_) (fun _ _ z => z.elim)
          match f, hsp with
          | .ret u, ⟨v, _, _, S6, rv, k⟩ => exact gone_ok (S6.unsuite good) hN hi hln fun s7 I7 => ⟨v, _, _, I7, rv, k⟩
          | .next, ⟨_, _, S6, k⟩ => exact gone_ok (S6.unsuite good) hN hi hln fun s7 I7 => ⟨_, _, I7, k⟩
          | .brk, ⟨_, _, S6, k⟩ => exact gone_ok (S6.unsuite good) hN hi hln fun s7 I7 => ⟨_, _, I7, k⟩
          | .cont, ⟨_, _, S6, k⟩ => exact gone_ok (S6.unsuite good) hN hi hln fun s7 I7 => ⟨_, _, I7, k⟩
    exact all cl wish
  refine wpAny_Try_except (wpAny_mono ((hb _ _ _ caught PassesOwn.looking).run [] s σ H D (I.toTry _) reads) (fun f s1 hsp => ?_) fun _ _ z => z)
  match f, hsp with
  | .ret u, ⟨v, _, _, J, rv, k⟩ => exact ⟨v, _, _, J.ofTry good, rv, k⟩
  | .next, ⟨_, _, J, k⟩ => exact wpAny_execs_nil ⟨_, _, J.ofTry good, k⟩
  | .brk, ⟨_, _, J, k⟩ => exact ⟨_, _, J.ofTry good, k⟩
  | .cont, ⟨_, _, J, k⟩ => exact ⟨_, _, J.ofTry good, k⟩
end
end Ms
namespace Ms
open PySem PySem.Spec PyProof.Rows L2
/-! ### data told apart by its repr -/
/-- the code of the first sign -/
def hd? (z : Str) : Option Nat := z.cps.toList.head?
theorem hd_app {z y : Str} {c : Nat} (h : hd? z = some c) : hd? (z ++ y) = some c := by
  unfold hd? at h ⊢
  have e : (z ++ y).cps.toList = z.cps.toList ++ y.cps.toList := Array.toList_append
  rw [e]
  cases q : z.cps.toList with
  | nil => rw [q] at h; cases h
  | cons a r => rw [q] at h; exact h
theorem app_cps (z y : Str) : (z ++ y).cps.toList = z.cps.toList ++ y.cps.toList := Array.toList_append
/-- repr of a text, as signs -/
theorem repr_list (z : Str) : (reprText z).cps.toList = reprQuote z :: (z.cps.toList.flatMap (Builtin.Str.reprChar (reprQuote z)) ++ [reprQuote z]) := by
  have key : ∀ (l : List Nat) (acc : Array Nat) (q : Nat), (l.foldl (fun out c => out ++ (Builtin.Str.reprChar q c).toArray) acc).toList = acc.toList ++ l.flatMap (Builtin.Str.reprChar q) := by
    intro l
    induction l with
    | nil => intro acc q; simp
    | cons c r ih =>
      intro acc q
      rw [List.foldl_cons, ih, List.flatMap_cons, Array.toList_append]
      simp
  unfold reprText
  show (Array.push _ _).toList = _
  rw [Array.toList_push, ← Array.foldl_toList, key]
  simp
theorem reprChar_in {q c : Nat} {d : Nat} (h : d ∈ Builtin.Str.reprChar q c) (hl : ∀ d ∈ Builtin.Str.reprChar q c, 97 ≤ d ∧ d ≤ 122) : Builtin.Str.reprChar q c = [c] := by
  unfold Builtin.Str.reprChar at hl ⊢
  repeat' split
  all_goals first
    | rfl
    | (exfalso
       rename_i h1
       have z := hl 92 (by simp [*])
       omega)
    | (exfalso
       have z := hl 92 (by simp [*])
       omega)
def plainZ (w : Str) : Prop := ∀ c ∈ w.cps.toList, 97 ≤ c ∧ c ≤ 122
theorem flat_same {q : Nat} : ∀ (l w : List Nat), l.flatMap (Builtin.Str.reprChar q) = w → (∀ d ∈ w, 97 ≤ d ∧ d ≤ 122) → l = w
  | [], w, h, _ => by simpa using h
  | c :: r, w, h, hw => by
    rw [List.flatMap_cons] at h
    have hin : ∀ d ∈ Builtin.Str.reprChar q c, 97 ≤ d ∧ d ≤ 122 := fun d hd => hw d (by rw [← h]; exact List.mem_append_left _ hd)
    have ne : ∃ d, d ∈ Builtin.Str.reprChar q c := by
      unfold Builtin.Str.reprChar
      repeat' split
      all_goals exact ⟨_, List.mem_cons_self ..⟩
    obtain ⟨d, hd⟩ := ne
    have e := reprChar_in hd hin
    rw [e] at h
    have e2 := flat_same r (r.flatMap (Builtin.Str.reprChar q)) rfl (fun d hd => hw d (by rw [← h]; exact List.mem_append_right _ hd))
    rw [← h, ← e2]; rfl
theorem quote_plain {w : Str} (h : plainZ w) : reprQuote w = 39 := by
  unfold reprQuote
  have e : w.cps.contains 39 = false := by
    rw [Bool.eq_false_iff]
    intro z
    rw [Array.contains_iff_mem] at z
    have := h 39 (Array.mem_toList_iff.mpr z)
    omega
  rw [e]; rfl
theorem letter_repr : ∀ c : Nat, 97 ≤ c → c ≤ 122 → Builtin.Str.reprChar 39 c = [c] := by
  have key : ∀ j : Fin 26, Builtin.Str.reprChar 39 (97 + j.1) = [97 + j.1] := by decide +kernel
  intro c h1 h2
  have := key ⟨c - 97, by omega⟩
  have e : 97 + (c - 97) = c := by omega
  rw [e] at this
  exact this
theorem repr_plain {w : Str} (h : plainZ w) : (reprText w).cps.toList = 39 :: (w.cps.toList ++ [39]) := by
  rw [repr_list, quote_plain h]
  congr 2
  have key : ∀ l : List Nat, (∀ d ∈ l, 97 ≤ d ∧ d ≤ 122) → l.flatMap (Builtin.Str.reprChar 39) = l := by
    intro l
    induction l with
    | nil => intro _; rfl
    | cons c r ih =>
      intro hl
      obtain ⟨a, b⟩ := hl c (List.mem_cons_self ..)
      rw [List.flatMap_cons, letter_repr c a b, ih fun d hd => hl d (List.mem_cons_of_mem _ hd)]
      rfl
  exact key _ h
theorem str_ext {z y : Str} (h : z.cps.toList = y.cps.toList) : z = y := by
  cases z with
  | mk a =>
    cases y with
    | mk b =>
      have : a = b := Array.toList_inj.mp h
      rw [this]
theorem repr_str_inj {z w : Str} (h : plainZ w) (e : reprText z = reprText w) : z = w := by
  have e1 : (reprText z).cps.toList = (reprText w).cps.toList := by rw [e]
  rw [repr_list, repr_plain h] at e1
  obtain ⟨hq, e2⟩ := List.cons.inj e1
  rw [hq] at e2
  have e3 := List.append_cancel_right e2
  exact str_ext (flat_same _ _ e3 h)
/-- how the repr of data begins -/
theorem digit_lo : ∀ d : Nat, d < 10 → 48 ≤ (Nat.digitChar d).toNat ∧ (Nat.digitChar d).toNat ≤ 57 := by decide
theorem digits_lo (m : Nat) : ∀ c ∈ (Nat.toDigits 10 m).map Char.toNat, 48 ≤ c ∧ c ≤ 57 := by
  induction m using Nat.strongRecOn with
  | _ m ih =>
    by_cases h : m < 10
    · rw [Nat.toDigits_of_lt_base h]
      intro c hc
      rw [List.mem_singleton.mp hc]
      exact digit_lo m h
    · have hm : m % 10 < 10 := Nat.mod_lt m (by decide)
      have t : Nat.toDigits 10 (m / 10) ++ Nat.toDigits 10 (m % 10) = Nat.toDigits 10 (10 * (m / 10) + m % 10) := Nat.toDigits_append_toDigits (by decide) (by omega) hm
      rw [Nat.div_add_mod] at t
      rw [← t, List.map_append, Nat.toDigits_of_lt_base hm]
      intro c hc
      rcases List.mem_append.mp hc with hc | hc
      · exact ih (m / 10) (by omega) c hc
      · rw [List.mem_singleton.mp hc]
        exact digit_lo _ hm
theorem int_signs (i : Int) : ∀ c ∈ (Str.ofString (toString i)).cps.toList, c = 45 ∨ (48 ≤ c ∧ c ≤ 57) := by
  cases i with
  | ofNat n =>
    intro c hc
    have e := PySem.W.KIN.signs_num n
    rw [show (Int.ofNat n) = ((n : Nat) : Int) from rfl, e] at hc
    exact .inr (digits_lo n c hc)
  | negSucc n =>
    intro c hc
    have e : (Str.ofString (toString (Int.negSucc n))).cps.toList = 45 :: (Nat.toDigits 10 (n + 1)).map Char.toNat := by
      rw [signs_ofString]
      show ("-" ++ Nat.repr (n + 1)).toList.map Char.toNat = _
      rw [String.toList_append, List.map_append, Nat.toList_repr]
      rfl
    rw [e] at hc
    rcases List.mem_cons.mp hc with rfl | hc
    · exact .inl rfl
    · exact .inr (digits_lo _ c hc)
theorem shown_str {d : PyData} {w : Str} (hs : d.shown = reprText w) (h : plainZ w) : d = .str w := by
  have hl : d.shown.cps.toList = 39 :: (w.cps.toList ++ [39]) := by rw [hs, repr_plain h]
  have first : d.shown.cps.toList.head? = some 39 := by rw [hl]; rfl
  cases d with
  | str z =>
    simp only [PyData.shown] at hs
    rw [repr_str_inj h hs]
  | none => exact absurd first (by decide +kernel)
  | bool b => cases b <;> exact absurd first (by decide +kernel)
  | int i =>
    have e : (Str.ofString (toString i)).cps.toList = 39 :: (w.cps.toList ++ [39]) := hl
    have := int_signs i 39 (by rw [e]; exact List.mem_cons_self ..)
    omega
  | list xs =>
    exfalso
    simp only [PyData.shown] at first
    unfold listText at first
    have key : ∀ (ts : List Str) (k : Nat) (acc : Str), hd? acc = some 91 → hd? (textFrom k acc ts) = some 91 := by
      intro ts
      induction ts with
      | nil => intro k acc h; exact h
      | cons t r ih => intro k acc h; exact ih _ _ (hd_app (hd_app h))
    have z := hd_app (y := "]") (key (PyData.shownAll xs) 0 "[" (by decide +kernel))
    unfold hd? at z
    rw [z] at first
    cases first
  | tuple xs =>
    exfalso
    simp only [PyData.shown] at first
    unfold tupleText at first
    have z : hd? (("(" : Str) ++ Str.join ", " (PyData.shownAll xs) ++ (if (PyData.shownAll xs).length == 1 then ",)" else ")" : String)) = some 40 := hd_app (hd_app (by decide +kernel))
    unfold hd? at z
    rw [z] at first
    cases first
  | dict kvs =>
    exfalso
    simp only [PyData.shown] at first
    unfold dictText at first
    have z : hd? (("{" : Str) ++ Str.join ", " (PyData.shownKv kvs) ++ ("}" : String)) = some 123 := hd_app (hd_app (by decide +kernel))
    unfold hd? at z
    rw [z] at first
    cases first
theorem shown_eq {d : PyData} {w : Str} (h : plainZ w) : (d.shown = reprText w) ↔ d = .str w := ⟨fun e => shown_str e h, fun e => by rw [e]; simp only [PyData.shown]⟩
abbrev endT : Str := "('end',)"
theorem plain_end : plainZ "end" := by
  have e : ("end" : Str).cps.toList = [101, 110, 100] := by decide +kernel
  unfold plainZ
  rw [e]; decide
theorem shown_end {d : PyData} (hs : d.shown = endT) : d = .tuple [.str "end"] := by
  have hl : d.shown.cps.toList = [40, 39, 101, 110, 100, 39, 44, 41] := by rw [hs]; decide +kernel
  have first : d.shown.cps.toList.head? = some 40 := by rw [hl]; rfl
  cases d with
  | none => exact absurd first (by decide +kernel)
  | bool b => cases b <;> exact absurd first (by decide +kernel)
  | int i =>
    have e : (Str.ofString (toString i)).cps.toList = [40, 39, 101, 110, 100, 39, 44, 41] := hl
    have := int_signs i 40 (by rw [e]; exact List.mem_cons_self ..)
    omega
  | str z =>
    exfalso
    have e : (reprText z).cps.toList = [40, 39, 101, 110, 100, 39, 44, 41] := hl
    rw [repr_list] at e
    have q := (List.cons.inj e).1
    unfold reprQuote at q
    split at q <;> omega
  | list xs =>
    exfalso
    simp only [PyData.shown] at first
    unfold listText at first
    have key : ∀ (ts : List Str) (k : Nat) (acc : Str), hd? acc = some 91 → hd? (textFrom k acc ts) = some 91 := by
      intro ts
      induction ts with
      | nil => intro k acc h; exact h
      | cons t r ih => intro k acc h; exact ih _ _ (hd_app (hd_app h))
    have z := hd_app (y := "]") (key (PyData.shownAll xs) 0 "[" (by decide +kernel))
    unfold hd? at z
    rw [z] at first
    cases first
  | dict kvs =>
    exfalso
    simp only [PyData.shown] at first
    unfold dictText at first
    have z : hd? (("{" : Str) ++ Str.join ", " (PyData.shownKv kvs) ++ ("}" : String)) = some 123 := hd_app (hd_app (by decide +kernel))
    unfold hd? at z
    rw [z] at first
    cases first
  | tuple ds =>
    match ds with
    | [] =>
      have e : (PyData.tuple []).shown.cps.toList = [40, 41] := by decide +kernel
      rw [e] at hl
      cases hl
    | [x] =>
      have e : (PyData.tuple [x]).shown = ("(" : Str) ++ x.shown ++ (",)" : String) := rfl
      rw [e, app_cps, app_cps] at hl
      have e1 : ("(" : Str).cps.toList = [40] := by decide +kernel
      have e2 : ((",)" : String) : Str).cps.toList = [44, 41] := by decide +kernel
      have e3 : [40] ++ x.shown.cps.toList ++ [44, 41] = [40] ++ [39, 101, 110, 100, 39] ++ [44, 41] := by rw [← e1, ← e2]; rw [e1, e2]; exact (by rw [e1, e2] at hl; exact hl)
      have e4 := List.append_cancel_left (List.append_cancel_right e3)
      have e5 : x.shown = reprText "end" := str_ext (by
        rw [e4, repr_plain plain_end]
        decide +kernel)
      rw [shown_str e5 plain_end]
    | x :: y :: r =>
      exfalso
      have e : (PyData.tuple (x :: y :: r)).shown = ("(" : Str) ++ (x.shown ++ ", " ++ Str.join ", " (PyData.shownAll (y :: r))) ++ (if (PyData.shownAll (x :: y :: r)).length == 1 then ",)" else ")" : String) := rfl
      have hm : 32 ∈ (PyData.tuple (x :: y :: r)).shown.cps.toList := by
        rw [e, app_cps, app_cps, app_cps, app_cps]
        have e2 : ((", " : String) : Str).cps.toList = [44, 32] := by decide +kernel
        rw [e2]
        simp
      rw [hl] at hm
      exact absurd hm (by decide)
theorem end_shown : (PyData.tuple [.str "end"]).shown = endT := by decide +kernel
theorem nm_plain {z : Str} (h : ∀ c ∈ z.cps.toList, 97 ≤ c ∧ c ≤ 122) : plainZ z := h
end Ms
namespace Ms
open PySem PySem.Spec PyProof.Rows L2
/-! ### tuples of small ints told apart by their repr -/
theorem digits_two {n : Nat} (h : ¬ n < 10) : ∃ a b r, (Nat.toDigits 10 n).map Char.toNat = a :: b :: r := by
  have hm : n % 10 < 10 := Nat.mod_lt n (by decide)
  have t : Nat.toDigits 10 (n / 10) ++ Nat.toDigits 10 (n % 10) = Nat.toDigits 10 (10 * (n / 10) + n % 10) := Nat.toDigits_append_toDigits (by decide) (by omega) hm
  rw [Nat.div_add_mod] at t
  rw [← t, Nat.toDigits_of_lt_base hm, List.map_append]
  have ne : Nat.toDigits 10 (n / 10) ≠ [] := Nat.toDigits_ne_nil
  cases e : Nat.toDigits 10 (n / 10) with
  | nil => exact absurd e ne
  | cons a r =>
    cases r with
    | nil => exact ⟨_, _, _, rfl⟩
    | cons b r => exact ⟨_, _, _, rfl⟩
theorem digit_at : ∀ d : Nat, d < 10 → (Nat.digitChar d).toNat = 48 + d := by decide
theorem int_digit {k : Int} (h0 : 0 ≤ k) (h9 : k ≤ 9) : (Str.ofString (toString k)).cps.toList = [48 + k.toNat] := by
  obtain ⟨n, rfl⟩ : ∃ n : Nat, k = (n : Int) := ⟨k.toNat, by omega⟩
  rw [PySem.W.KIN.signs_num n, Nat.toDigits_of_lt_base (by omega)]
  show [(Nat.digitChar n).toNat] = _
  rw [digit_at n (by omega)]
  rfl
/-- an item that begins like a digit with a comma or the end behind it is that digit -/
theorem item_of {d : PyData} {k : Int} {rest rest' : List Nat} (h0 : 0 ≤ k) (h9 : k ≤ 9) (e : d.shown.cps.toList ++ rest = (48 + k.toNat) :: rest') (hr : rest'.head? = some 44 ∨ rest'.head? = some 41) : d = .int k ∧ rest = rest' := by
  have kb : 48 ≤ 48 + k.toNat ∧ 48 + k.toNat ≤ 57 := by omega
  have hd : ∀ {c : Nat}, d.shown.cps.toList.head? = some c → c = 48 + k.toNat := fun {c} h => by
    cases q : d.shown.cps.toList with
    | nil => rw [q] at h; cases h
    | cons a r =>
      rw [q] at h e
      have e1 := (List.cons.inj e).1
      have e2 := Option.some.inj h
      omega
  cases d with
  | none =>
    exfalso
    have := hd (c := 78) (by decide +kernel)
    omega
  | bool b =>
    exfalso
    cases b with
    | false =>
      have := hd (c := 70) (by decide +kernel)
      omega
    | true =>
      have := hd (c := 84) (by decide +kernel)
      omega
  | str z =>
    have e0 : (PyData.str z).shown = reprText z := by simp only [PyData.shown]
    have q : reprQuote z = 39 ∨ reprQuote z = 34 := by
      unfold reprQuote
      split
      · exact .inr rfl
      · exact .inl rfl
    have := hd (c := reprQuote z) (by rw [e0, repr_list]; rfl)
    omega
  | list xs =>
    exfalso
    have key : ∀ (ts : List Str) (k : Nat) (acc : Str), hd? acc = some 91 → hd? (textFrom k acc ts) = some 91 := by
      intro ts
      induction ts with
      | nil => intro k acc h; exact h
      | cons t r ih => intro k acc h; exact ih _ _ (hd_app (hd_app h))
    have z := hd_app (y := "]") (key (PyData.shownAll xs) 0 "[" (by decide +kernel))
    have := hd (c := 91) (by simp only [PyData.shown]; unfold listText; exact z)
    omega
  | tuple xs =>
    exfalso
    have z : hd? (("(" : Str) ++ Str.join ", " (PyData.shownAll xs) ++ (if (PyData.shownAll xs).length == 1 then ",)" else ")" : String)) = some 40 := hd_app (hd_app (by decide +kernel))
    have := hd (c := 40) (by simp only [PyData.shown]; unfold tupleText; exact z)
    omega
  | dict kvs =>
    exfalso
    have z : hd? (("{" : Str) ++ Str.join ", " (PyData.shownKv kvs) ++ ("}" : String)) = some 123 := hd_app (hd_app (by decide +kernel))
    have := hd (c := 123) (by simp only [PyData.shown]; unfold dictText; exact z)
    omega
  | int i =>
    have es : (PyData.int i).shown.cps.toList = (Str.ofString (toString i)).cps.toList := rfl
    rw [es] at e
    have one : (Str.ofString (toString i)).cps.toList = [48 + k.toNat] → PyData.int i = .int k ∧ rest = rest' := fun h => by
      rw [h] at e
      refine ⟨?_, (List.cons.inj e).2⟩
      cases i with
      | ofNat n =>
        rw [show (Int.ofNat n) = ((n : Nat) : Int) from rfl, PySem.W.KIN.signs_num n] at h
        by_cases hn : n < 10
        · rw [Nat.toDigits_of_lt_base hn] at h
          have h2 : [(Nat.digitChar n).toNat] = [48 + k.toNat] := h
          rw [digit_at n hn] at h2
          have h3 := (List.cons.inj h2).1
          show PyData.int ((n : Nat) : Int) = .int k
          congr 1
          omega
        · obtain ⟨a, b, r, h2⟩ := digits_two hn
          rw [h2] at h
          cases h
      | negSucc n =>
        have e : (Str.ofString (toString (Int.negSucc n))).cps.toList = 45 :: (Nat.toDigits 10 (n + 1)).map Char.toNat := by
          rw [signs_ofString]
          show ("-" ++ Nat.repr (n + 1)).toList.map Char.toNat = _
          rw [String.toList_append, List.map_append, Nat.toList_repr]
          rfl
        rw [e] at h
        have := (List.cons.inj h).1
        omega
    cases q : (Str.ofString (toString i)).cps.toList with
    | nil =>
      exfalso
      cases i with
      | ofNat n =>
        rw [show (Int.ofNat n) = ((n : Nat) : Int) from rfl, PySem.W.KIN.signs_num n] at q
        exact Nat.toDigits_ne_nil (List.map_eq_nil_iff.mp q)
      | negSucc n =>
        have e : (Str.ofString (toString (Int.negSucc n))).cps.toList = 45 :: (Nat.toDigits 10 (n + 1)).map Char.toNat := by
          rw [signs_ofString]
          show ("-" ++ Nat.repr (n + 1)).toList.map Char.toNat = _
          rw [String.toList_append, List.map_append, Nat.toList_repr]
          rfl
        rw [e] at q
        cases q
    | cons a r =>
      rw [q] at e
      cases r with
      | nil =>
        have ea := (List.cons.inj e).1
        exact one (by rw [q, ea])
      | cons b r =>
        exfalso
        have e2 := (List.cons.inj e).2
        have hb := int_signs i b (by rw [q]; simp)
        have hr2 : rest'.head? = some b := by rw [← e2]; rfl
        rcases hr with hr | hr <;> (rw [hr2] at hr; have := Option.some.inj hr; omega)
/-- the items' texts, joined -/
def joinS (ds : List PyData) : List Nat := (Str.join ", " (PyData.shownAll ds)).cps.toList
theorem join_one (x : PyData) : joinS [x] = x.shown.cps.toList := rfl
theorem join_more (x y : PyData) (r : List PyData) : joinS (x :: y :: r) = x.shown.cps.toList ++ (44 :: 32 :: joinS (y :: r)) := by
  have e : Str.join ", " (PyData.shownAll (x :: y :: r)) = x.shown ++ ", " ++ Str.join ", " (PyData.shownAll (y :: r)) := rfl
  unfold joinS
  rw [e, app_cps, app_cps]
  have e2 : ((", " : String) : Str).cps.toList = [44, 32] := by decide +kernel
  rw [e2, List.append_assoc]
  rfl
theorem tup_one (x : PyData) : (PyData.tuple [x]).shown.cps.toList = 40 :: (x.shown.cps.toList ++ [44, 41]) := by
  have e : (PyData.tuple [x]).shown = ("(" : Str) ++ x.shown ++ (",)" : String) := rfl
  rw [e, app_cps, app_cps]
  have e1 : ("(" : Str).cps.toList = [40] := by decide +kernel
  have e2 : ((",)" : String) : Str).cps.toList = [44, 41] := by decide +kernel
  rw [e1, e2]
  rfl
theorem tup_more (x y : PyData) (r : List PyData) : (PyData.tuple (x :: y :: r)).shown.cps.toList = 40 :: (joinS (x :: y :: r) ++ [41]) := by
  have e : (PyData.tuple (x :: y :: r)).shown = ("(" : Str) ++ Str.join ", " (PyData.shownAll (x :: y :: r)) ++ (if (PyData.shownAll (x :: y :: r)).length == 1 then ",)" else ")" : String) := rfl
  have e0 : (if (PyData.shownAll (x :: y :: r)).length == 1 then ",)" else ")" : String) = ")" := by
    show (if ((PyData.shownAll r).length + 1 + 1 == 1) = true then ",)" else ")" : String) = ")"
    rw [if_neg (by simp)]
  rw [e, e0, app_cps, app_cps]
  have e1 : ("(" : Str).cps.toList = [40] := by decide +kernel
  have e2 : ((")" : String) : Str).cps.toList = [41] := by decide +kernel
  rw [e1, e2]
  rfl
theorem shown_int {k : Int} (h0 : 0 ≤ k) (h9 : k ≤ 9) : (PyData.int k).shown.cps.toList = [48 + k.toNat] := int_digit h0 h9
theorem join_inj : ∀ (is : List Int) (ds : List PyData), is ≠ [] → ds ≠ [] → (∀ i ∈ is, 0 ≤ i ∧ i ≤ 9) → joinS ds ++ [41] = joinS (is.map .int) ++ [41] → ds = is.map .int
  | [], _, h, _, _, _ => absurd rfl h
  | _, [], _, h, _, _ => absurd rfl h
  | i :: is, d :: ds, _, _, hi, e => by
    obtain ⟨h0, h9⟩ := hi i (List.mem_cons_self ..)
    cases is with
    | nil =>
      rw [show List.map PyData.int [i] = [.int i] from rfl, join_one (.int i), shown_int h0 h9] at e
      cases ds with
      | nil =>
        rw [join_one] at e
        rw [(item_of h0 h9 e (.inr rfl)).1]
        rfl
      | cons d2 ds =>
        rw [join_more, List.append_assoc] at e
        have := (item_of h0 h9 e (.inr rfl)).2
        cases this
    | cons i2 is =>
      rw [show List.map PyData.int (i :: i2 :: is) = .int i :: .int i2 :: is.map .int from rfl, join_more, shown_int h0 h9] at e
      cases ds with
      | nil =>
        rw [join_one] at e
        have := (item_of h0 h9 e (.inl rfl)).2
        cases this
      | cons d2 ds =>
        rw [join_more, List.append_assoc] at e
        obtain ⟨e1, e2⟩ := item_of h0 h9 e (.inl rfl)
        have e3 : joinS (d2 :: ds) ++ [41] = joinS ((i2 :: is).map .int) ++ [41] := (List.cons.inj (List.cons.inj e2).2).2
        rw [e1, join_inj (i2 :: is) (d2 :: ds) nofun nofun (fun x hx => hi x (List.mem_cons_of_mem _ hx)) e3]
        rfl
theorem shown_ints {d : PyData} {is : List Int} (hi : ∀ i ∈ is, 0 ≤ i ∧ i ≤ 9) (hl : is ≠ []) (hs : d.shown = (PyData.tuple (is.map .int)).shown) : d = .tuple (is.map .int) := by
  have e : d.shown.cps.toList = (PyData.tuple (is.map .int)).shown.cps.toList := by rw [hs]
  obtain ⟨i, r, rfl⟩ : ∃ i r, is = i :: r := by
    cases is with
    | nil => exact absurd rfl hl
    | cons i r => exact ⟨i, r, rfl⟩
  obtain ⟨h0, h9⟩ := hi i (List.mem_cons_self ..)
  obtain ⟨tl, ht⟩ : ∃ tl, (PyData.tuple ((i :: r).map .int)).shown.cps.toList = 40 :: tl := by
    cases r with
    | nil => exact ⟨_, tup_one (.int i)⟩
    | cons j r => exact ⟨_, tup_more (.int i) (.int j) (r.map .int)⟩
  have first : d.shown.cps.toList.head? = some 40 := by rw [e, ht]; rfl
  cases d with
  | none => exact absurd first (by decide +kernel)
  | bool b => cases b <;> exact absurd first (by decide +kernel)
  | int j =>
    exfalso
    have es : (PyData.int j).shown.cps.toList = (Str.ofString (toString j)).cps.toList := rfl
    have := int_signs j 40 (by
      rw [← es]
      cases q : (PyData.int j).shown.cps.toList with
      | nil => rw [q] at first; cases first
      | cons a t => rw [q] at first; rw [Option.some.inj first]; exact List.mem_cons_self ..)
    omega
  | str z =>
    exfalso
    have e0 : (PyData.str z).shown = reprText z := by simp only [PyData.shown]
    rw [e0, repr_list] at first
    have q := Option.some.inj first
    unfold reprQuote at q
    split at q <;> omega
  | list xs =>
    exfalso
    simp only [PyData.shown] at first
    unfold listText at first
    have key : ∀ (ts : List Str) (k : Nat) (acc : Str), hd? acc = some 91 → hd? (textFrom k acc ts) = some 91 := by
      intro ts
      induction ts with
      | nil => intro k acc h; exact h
      | cons t r ih => intro k acc h; exact ih _ _ (hd_app (hd_app h))
    have z := hd_app (y := "]") (key (PyData.shownAll xs) 0 "[" (by decide +kernel))
    unfold hd? at z
    rw [z] at first
    cases first
  | dict kvs =>
    exfalso
    simp only [PyData.shown] at first
    unfold dictText at first
    have z : hd? (("{" : Str) ++ Str.join ", " (PyData.shownKv kvs) ++ ("}" : String)) = some 123 := hd_app (hd_app (by decide +kernel))
    unfold hd? at z
    rw [z] at first
    cases first
  | tuple ds =>
    cases r with
    | nil =>
      rw [show List.map PyData.int [i] = [.int i] from rfl, tup_one, shown_int h0 h9] at e
      match ds with
      | [] =>
        have e1 : (PyData.tuple []).shown.cps.toList = [40, 41] := by decide +kernel
        rw [e1] at e
        exact absurd (congrArg List.length e) (by simp)
      | [x] =>
        rw [tup_one] at e
        rw [(item_of h0 h9 (List.cons.inj e).2 (.inl rfl)).1]
        rfl
      | x :: y :: q =>
        rw [tup_more, join_more, List.append_assoc] at e
        have := (item_of h0 h9 (List.cons.inj e).2 (.inl rfl)).2
        cases this
    | cons j r =>
      rw [show List.map PyData.int (i :: j :: r) = .int i :: .int j :: r.map .int from rfl, tup_more] at e
      match ds with
      | [] =>
        have e1 : (PyData.tuple []).shown.cps.toList = [40, 41] := by decide +kernel
        rw [e1, join_more, shown_int h0 h9] at e
        have e3 := (List.cons.inj (List.cons.inj e).2).1
        exact absurd e3 (by omega)
      | [x] =>
        rw [tup_one, join_more, shown_int h0 h9] at e
        have := (item_of h0 h9 (List.cons.inj e).2 (.inl rfl)).2
        cases this
      | x :: y :: q =>
        rw [tup_more] at e
        rw [join_inj (i :: j :: r) (x :: y :: q) nofun nofun hi (List.cons.inj e).2]
end Ms
namespace Ms
open PySem PySem.Spec PyProof.Rows L2
/-! ### _law_standings -/
section
variable {P : Program} {w : World} {K : PySem.W.Frag} {mg : Str → Option Value} {base : Heap} {fN fM : Addr}
abbrev NLs : List Str := ["spots", "rows", "name", "most", "further", "row", "value"]
theorem scLs : FnScope NLs ["spots"] (defScope sStandings) := ⟨rfl, rfl, rfl, by decide +kernel, rfl, by decide +kernel, by decide +kernel⟩
def spLStand (K : PySem.W.Frag) : Sp := fun vs H Q _ => ∃ (a : Addr) (xs : List V) (qs : List (Str × Int)), vs = [.ref a] ∧ SqT K H a xs ∧ PrTs K H xs qs ∧ qs.length ≤ 3 ∧ (∀ q ∈ qs, 1 ≤ q.2 ∧ q.2 ≤ 3) ∧
  ∀ R vs' H', H R = none → Same H H' → H' R = some (.lst vs') → Rwq K H' vs' (grid qs) → Q (.ref R) H'
theorem grid_small : ∀ (qs : List (Str × Int)), qs.length ≤ 3 → (∀ q ∈ qs, 1 ≤ q.2 ∧ q.2 ≤ 3) → (grid qs).length ≤ 64 := by
  have key : ∀ (qs : List (Str × Int)) (rs : List (List Int)), (∀ q ∈ qs, 1 ≤ q.2 ∧ q.2 ≤ 3) → (qs.foldl (fun rs q => widen rs (q.2 + 1).toNat) rs).length ≤ rs.length * 4 ^ qs.length := by
    intro qs
    induction qs with
    | nil => intro rs _; simp
    | cons q qs ih =>
      intro rs h
      have hq := h q (List.mem_cons_self ..)
      have h1 := ih (widen rs (q.2 + 1).toNat) fun x hx => h x (List.mem_cons_of_mem _ hx)
      rw [widen_len] at h1
      have h4 : (q.2 + 1).toNat ≤ 4 := by omega
      refine Nat.le_trans h1 ?_
      rw [List.length_cons, Nat.pow_succ, Nat.mul_comm (4 ^ qs.length) 4, ← Nat.mul_assoc]
      exact Nat.mul_le_mul_right _ (Nat.mul_le_mul_left _ h4)
  intro qs hl h
  have h1 := key qs [[]] h
  have h2 : 4 ^ qs.length ≤ 4 ^ 3 := Nat.pow_le_pow_right (by decide) hl
  have : (grid qs).length ≤ ([[]] : List (List Int)).length * 4 ^ qs.length := h1
  simp at this
  omega
theorem ok_lstand {f : Addr} {fd : FuncData} (F : Fun K "_law_standings" "_law_standings" sStandings f fd) (T : TxtN mg fN) : FnOk P w K mg base CX0 1 f fd ["spots"] (spLStand K) := by
  refine F.ok scLs (fun vs H Q E h => ?_) (fun cdv A outer s H vs Q E hr h => ?_)
  · obtain ⟨a, xs, qs, rfl, _⟩ := h
    rfl
  obtain ⟨a, xs, qs, rfl, hs, hp, hl, hb, q⟩ := h
  have ll := hp.len
  refine ⟨_, pss_cons (ps_set (i := 1) scLs.nd rfl (Or.inl rfl) (pe_lst (pa_cons (pe_tup pa_nil) pa_nil)))
    (pss_cons (ps_for PassesOwn.never rfl (pi_tup (pv 0)) (pg_tup rfl (pgs_cons (pg_name (i := 2) scLs.nd rfl (Or.inl rfl)) (pgs_cons (pg_name (i := 3) scLs.nd rfl (Or.inl rfl)) pgs_nil)))
      (pss_cons (ps_set (i := 4) scLs.nd rfl (Or.inl rfl) (pe_lst pa_nil))
      (pss_cons (ps_for PassesOwn.never rfl (pi_list (pe_callTy call_list_of (by rfl) T.list (by decide +kernel) (pa_cons (pv 1) pa_nil))) (pg_name (i := 5) scLs.nd rfl (Or.inl rfl))
        (pss_one (ps_for PassesOwn.never rfl (pi_range1 (by rfl) T.range (pa_cons (pe_op op_add (pv 3) pe_int) pa_nil)) (pg_name (i := 6) scLs.nd rfl (Or.inl rfl))
          (pss_one (ps_expr (pe_bm PySem.F.plainAttrs_list PySem.F.slot_list_append PySem.F.type_list_append mt_append (pv 4) (pa_cons (pe_op op_catA (pv 5) (pe_tup (pa_cons (pv 6) pa_nil))) pa_nil)))))))
      (pss_one (ps_set (i := 1) scLs.nd rfl (Or.inl rfl) (pv 4))))))
    (pss_one (ps_ret (pv 1)))), ?_⟩
  refine ⟨Nat.zero_le _, fun p0 h0 => ⟨(by show 1 ≤ sizeLine; decide), fun R0 hR0 => ?_⟩⟩
  have s0 : Same H (upd H p0 (.tup [])) := Same.upd h0
  have s1 : Same H (upd (upd H p0 (.tup [])) R0 (.lst [.ref p0])) := s0.trans (Same.upd hR0)
  have nR0 : p0 ≠ R0 := fun e => by rw [← e, upd_same] at hR0; cases hR0
  refine ⟨_, rfl, a, rfl, ⟨_, Same.seqT s1 hs⟩, ?_⟩
  have tk1 : ∀ {i : Nat} {qq : Str × Int}, qs[i]? = some qq → grid (qs.take (i + 1)) = widen (grid (qs.take i)) (qq.2 + 1).toNat := fun {i qq} hq => by
    unfold grid
    rw [List.take_succ, hq, List.foldl_append]
    rfl
  have g64 : ∀ i, (grid (qs.take i)).length ≤ 64 := fun i => grid_small _ (by rw [List.length_take]; omega) fun q hq => hb q (List.mem_of_mem_take hq)
  refine for_it (walk_tup (xs := xs)) (fun i σ H2 => ∃ (R : Addr) (us : List V) (v2 v3 v4 v5 v6 : Option V), σ = [some (.ref a), some (.ref R), v2, v3, v4, v5, v6] ∧ Same H H2 ∧ H R = none ∧ H2 R = some (.lst us) ∧ Rwq K H2 us (grid (qs.take i)))
    ⟨R0, [.ref p0], none, none, none, none, none, rfl, s1, Same.free s0 hR0, upd_same, ?_⟩ (fun i σ H2 _ ⟨R, us, v2, v3, v4, v5, v6, _, s2, _⟩ => Same.seqT s2 hs) ?_ ?_
  · rw [List.take_zero]
    refine .cons (r := []) (.inl (.inl ?_)) .nil
    rw [upd_ne nR0, upd_same]; rfl
  · rintro i x σ H2 H3 hi ⟨R, us, v2, v3, v4, v5, v6, rfl, s2, hR, gR, rw2⟩ ⟨rfl, hx⟩
    obtain ⟨qq, hq, b, rfl, hb2⟩ := hp.get hx
    have hqb := hb qq (List.mem_of_getElem? hq)
    obtain ⟨rs, ers⟩ : ∃ rs, rs = grid (qs.take i) := ⟨_, rfl⟩
    have e1 := tk1 hq
    have g1 := g64 (i + 1)
    have g0 := g64 i
    rw [← ers] at rw2 e1 g0
    rw [e1] at g1
    obtain ⟨n, en⟩ : ∃ n : Nat, n = (qq.2 + 1).toNat := ⟨_, rfl⟩
    rw [← en] at e1 g1
    have n4 : n ≤ 4 := by omega
    have lu := rw2.len
    refine ⟨b, _, rfl, Same.seqT s2 hb2, rfl, _, _, rfl, _, _, rfl, rfl, ?_⟩
    refine ⟨(by show 0 ≤ sizeLine; decide), fun F hF => ?_⟩
    have hFH : H F = none := Same.free s2 hF
    have sF : Same H3 (upd H3 F (.lst [])) := Same.upd hF
    have nRF : R ≠ F := ne_of_none gR hF
    refine ⟨_, rfl, R, us, rfl, .inl (SqL.of (sF _ _ gR)), fun L hL => ?_⟩
    have hL3 : H3 L = none := Same.free sF hL
    have nFL : F ≠ L := fun e => by rw [← e, upd_same] at hL; cases hL
    have sL : Same (upd H3 F (.lst [])) (upd (upd H3 F (.lst [])) L (.lst us)) := Same.upd hL
    refine ⟨L, rfl, ⟨_, SqL.of upd_same⟩, for_list (K := K) (a := L) (xs := us) (fun j σ H4 => ∃ (ws : List V) (v5 v6 : Option V), σ = [some (.ref a), some (.ref R), some (.str qq.1), some (.int qq.2), some (.ref F), v5, v6] ∧ (∀ c o, H3 c = some o → H4 c = some o) ∧ H4 L = some (.lst us) ∧ H4 F = some (.lst ws) ∧ Rwq K H4 ws (widen (rs.take j) n))
      ⟨[], v5, v6, rfl, sF.trans sL, upd_same, sL _ _ upd_same, by rw [List.take_zero]; exact .nil⟩ (fun j σ H4 _ ⟨ws, v5, v6, _, _, gL, _⟩ => SqL.of gL) ?_ ?_⟩
    · rintro j y σ H4 hj ⟨ws, v5, v6, rfl, s4, gL, gF, rw4⟩
      obtain ⟨pr, r, rfl, hr, hpr⟩ := rw2.get hj
      have lw := rw4.len
      have ew := widen_take (n := n) hr
      have lw2 : (widen (rs.take (j + 1)) n).length ≤ 64 := by
        rw [widen_len, List.length_take]
        rw [widen_len] at g1
        refine Nat.le_trans (Nat.mul_le_mul_right _ (Nat.min_le_right _ _)) g1
      have lw1 : (widen (rs.take j) n).length ≤ 64 := by rw [ew, List.length_append] at lw2; omega
      have lr : r.length ≤ 3 := by
        have := grid_row (qs.take i) r (by rw [← ers]; exact List.mem_of_getElem? hr)
        rw [this, List.length_take]; omega
      refine ⟨_, rfl, _, _, rfl, rfl, qq.2 + 1, rfl, by omega, by omega, ?_⟩
      rw [← en]
      refine for_range (lo := 0) (n := n) (fun k σ H5 => ∃ (ws' : List V) (v6 : Option V), σ = [some (.ref a), some (.ref R), some (.str qq.1), some (.int qq.2), some (.ref F), some (.ref pr), v6] ∧ (∀ c o, H3 c = some o → H5 c = some o) ∧ H5 L = some (.lst us) ∧ H5 F = some (.lst ws') ∧ Rwq K H5 ws' (widen (rs.take j) n ++ (List.range k).map fun (v : Nat) => r ++ [(v : Int)]))
        ⟨ws, v6, rfl, s4, gL, gF, by simpa using rw4⟩ ?_ ?_
      · rintro k σ H5 hk ⟨ws', v6, rfl, s5, gL5, gF5, rw5⟩
        have lw5 := rw5.len
        rw [List.length_append, List.length_map, List.length_range] at lw5
        refine ⟨_, rfl, .inl ⟨rfl, _, SqL.of gF5⟩, _, rfl, _, rfl, (by show 1 ≤ sizeLine; decide), fun p6 h6 => ?_⟩
        have s6 : Same H5 (upd H5 p6 (.tup [.int (0 + (k : Int))])) := Same.upd h6
        refine catA_any (Same.seqT s6 (Same.seqT (fun c o hc => s5 c o hc) hpr)) (.inl (.inl upd_same)) (Nat.le_of_lt (small1000 (by simp; omega))) fun p7 H7 s7 c7 => ?_
        have s57 := s6.trans s7
        have gF7 : H7 F = some (.lst ws') := s57 _ _ gF5
        refine ⟨F, ws', _, rfl, rfl, gF7, small1000 (by omega), ws' ++ [.ref p7], _, rfl, fun c o hc => ?_, ?_, upd_same, ?_⟩
        · rw [upd_ne (ne_of_none hc hF)]; exact s57 _ _ (s5 c o hc)
        · rw [upd_ne nFL.symm]; exact s57 _ _ gL5
        · rw [range_more, ← List.append_assoc]
          refine Rwq.snoc ((rw5.same s57).gen fun c ys hc => SqT.lst gF7 hc) (SqT.lst gF7 ?_)
          have e : (r ++ [(k : Int)]).map V.int = r.map V.int ++ [.int (0 + (k : Int))] := by
            rw [List.map_append, Int.zero_add]; rfl
          rw [e]
          exact c7
      · rintro σ H5 ⟨ws', v6, rfl, s5, gL5, gF5, rw5⟩
        rw [← ew] at rw5
        exact ⟨ws', _, v6, rfl, s5, gL5, gF5, rw5⟩
    · rintro σ H4 ⟨ws, v5, v6, rfl, s4, gL, gF, rw4⟩
      rw [List.take_of_length_le (by omega), ← e1] at rw4
      exact ⟨_, rfl, F, ws, _, _, _, v5, v6, rfl, fun c o hc => s4 c o (s2 c o hc), hFH, gF, rw4⟩
  · rintro σ H2 ⟨R, us, v2, v3, v4, v5, v6, rfl, s2, hR, gR, rw2⟩
    rw [List.take_of_length_le (by omega)] at rw2
    exact ⟨_, rfl, q R us H2 hR s2 gR rw2⟩
end
end Ms
namespace Ms
open PySem PySem.Spec PyProof.Rows L2 RZ
/-! ### the law's own near pairs -/
section
variable {K : PySem.W.Frag} {H H' : Hp} {m l : Addr}
theorem Rwq.dq {vs : List V} {rs : List (List Int)} (p : Rwq K H vs rs) : DqAll K H m l vs (rs.map rowD) := by
  induction p with
  | nil => exact .nil
  | cons h _ ih => exact .cons (.tup h (ints_dq _)) ih
end
def nearLo (r : List Int) (rs : List (List Int)) : List (List Int × List Int) := (rs.filter fun s => decide (distL r s = 1)).map fun s => (r, s)
def nearL (us rs : List (List Int)) : List (List Int × List Int) := us.flatMap fun r => nearLo r rs
theorem nearLo_le (r : List Int) (rs : List (List Int)) : (nearLo r rs).length ≤ rs.length := by
  unfold nearLo
  rw [List.length_map]
  exact List.length_filter_le _ _
theorem nearL_le : ∀ (us rs : List (List Int)), (nearL us rs).length ≤ us.length * rs.length
  | [], rs => by simp [nearL]
  | r :: us, rs => by
    have h1 := nearLo_le r rs
    have h2 := nearL_le us rs
    show (nearLo r rs ++ nearL us rs).length ≤ (us.length + 1) * rs.length
    rw [List.length_append, Nat.add_mul]
    omega
theorem nearL_D : ∀ us rs : List (List Int), (nearL us rs).map (fun q => pairD q.1 q.2) = nearDs us rs
  | [], rs => rfl
  | r :: us, rs => by
    show (nearLo r rs ++ nearL us rs).map _ = nearDo r rs ++ nearDs us rs
    rw [List.map_append, nearL_D us rs]
    congr 1
    unfold nearLo nearDo
    rw [List.map_map]; rfl
section
variable {P : Program} {w : World} {K : PySem.W.Frag} {mg : Str → Option Value} {base : Heap} {fN fLs : Addr}
abbrev NLn : List Str := ["spots", "found", "rows", "one", "other", "mine", "theirs"]
theorem scLn6 : FnScope NLn ["spots"] (defScope sLNear) := ⟨rfl, rfl, rfl, by decide +kernel, rfl, by decide +kernel, by decide +kernel⟩
def spLNear (K : PySem.W.Frag) : Sp := fun vs H Q _ => ∃ (a : Addr) (xs : List V) (qs : List (Str × Int)), vs = [.ref a] ∧ SqT K H a xs ∧ PrTs K H xs qs ∧ qs.length ≤ 3 ∧ (∀ q ∈ qs, 1 ≤ q.2 ∧ q.2 ≤ 3) ∧ (grid qs).length ≤ 12 ∧
  ∀ R vs' H', H R = none → Same H H' → H' R = some (.lst vs') → Prq K H' vs' (nearL (grid qs) (grid qs)) → Q (.ref R) H'
theorem ok_lnear {f : Addr} {fd fdLs : FuncData} (F : Fun K "_law_near" "_law_near" sLNear f fd) (T : TxtN mg fN) (hz : mg "zip" = none) (hsum : mg "sum" = none) (habs : mg "abs" = none) (gLs : mg "_law_standings" = some (.ref fLs)) (FLs : Fun K "_law_standings" "_law_standings" sStandings fLs fdLs) (bLs : Binds K fdLs ["spots"] []) :
    FnOk P w K mg base CX0 2 f fd ["spots"] (spLNear K) := by
  have GLs : FnOk P w K mg base CX0 1 fLs fdLs ["spots"] (spLStand K) := ok_lstand FLs T
  refine F.ok scLn6 (fun vs H Q E h => ?_) (fun cdv A outer s H vs Q E hr h => ?_)
  · obtain ⟨a, xs, qs, rfl, _⟩ := h
    rfl
  obtain ⟨a, xs, qs, rfl, hs, hp, hl, hb, g12, q⟩ := h
  refine ⟨_, pss_cons (ps_par (i := 1) (j := 2) (by rfl) scLn6.nd rfl rfl (by decide) rfl rfl (pa_cons (pe_lst pa_nil) (pa_cons (pe_call GLs hr (by rfl) gLs FLs.kp bLs .nil pass0 (pa_cons (pv 0) pa_nil)) pa_nil)) (by rfl))
    (pss_cons (ps_for PassesOwn.never rfl (pi_list (pv 2)) (pg_name (i := 3) scLn6.nd rfl (by first | exact Or.inl rfl | exact Or.inr rfl))
      (pss_one (ps_for PassesOwn.never rfl (pi_list (pv 2)) (pg_name (i := 4) scLn6.nd rfl (by first | exact Or.inl rfl | exact Or.inr rfl))
        (pss_one (ps_if (pt_cmpR op_eq (pe_callB (show CallR _ (.builtin "sum") (rSum K) from by exact cr_sum (by rfl)) (by rfl) hsum (by decide +kernel) (pa_cons
            (pe_lc (own := [("mine", 5), ("theirs", 6)]) (g := gTup K 2 (gCons (gName 5) (gCons (gName 6) gNil))) (by rfl) scLn6.nd (pi_zipA (by rfl) hz (pa_cons (pv 3) (pa_cons (pv 4) pa_nil))) (blkOk_by (own := [("mine", 5), ("theirs", 6)]) (N := NLn) (sc := defScope sLNear) (by decide +kernel))
              (fun _ _ _ _ _ => pg_tup rfl (pgs_cons (pg_name (i := 5) scLn6.nd rfl (by first | exact Or.inl rfl | exact Or.inr rfl)) (pgs_cons (pg_name (i := 6) scLn6.nd rfl (by first | exact Or.inl rfl | exact Or.inr rfl)) pgs_nil))) (fun _ _ _ _ _ => pts_nil)
              (fun _ _ _ _ _ => pe_callB call_abs (by rfl) habs (by decide +kernel) (pa_cons (pe_op op_sub (pv 5) (pv 6)) pa_nil))) pa_nil)) pe_int (nomark _))
          (pss_one (ps_expr (pe_bm PySem.F.plainAttrs_list PySem.F.slot_list_append PySem.F.type_list_append mt_append (pv 1) (pa_cons (pe_tup (pa_cons (pv 3) (pa_cons (pv 4) pa_nil))) pa_nil)))) pss_nil)))))
    (pss_one (ps_ret (pv 1)))), ?_⟩
  refine ⟨(by show 0 ≤ sizeLine; decide), fun F0 hF => ⟨_, rfl, a, xs, qs, rfl, Same.seqT (Same.upd hF) hs, PrTs.same (Same.upd hF) hp, hl, hb, fun R us H2 hR s2 gR rw2 => ⟨_, _, rfl, ?_⟩⟩⟩
  have s02 : Same H H2 := (Same.upd hF).trans s2
  have gF2 : H2 F0 = some (.lst []) := s2 _ _ upd_same
  obtain ⟨rs, ers⟩ : ∃ rs, rs = grid qs := ⟨_, rfl⟩
  have rl : ∀ r ∈ rs, r.length ≤ 3 := fun r hr2 => by
    have := grid_rowB r (by rw [← ers]; exact hr2)
    omega
  have rq : ∀ r ∈ rs, ∀ r2 ∈ rs, r.length = r2.length := fun r h1 r2 h2 => by
    rw [grid_rowB r (by rw [← ers]; exact h1), grid_rowB r2 (by rw [← ers]; exact h2)]
  rw [← ers] at rw2 q g12
  have lu := rw2.len
  have bnd : ∀ (i j : Nat) (r : List Int), i ≤ rs.length → (nearL (rs.take i) rs ++ nearLo r (rs.take j)).length ≤ 999 := fun i j r hi => by
    have h1 := nearL_le (rs.take i) rs
    have h2 := nearLo_le r (rs.take j)
    rw [List.length_take] at h1 h2
    rw [List.length_append]
    have h3 : min i rs.length * rs.length ≤ 12 * 12 := Nat.mul_le_mul (by omega) (by omega)
    omega
  have nRF : R ≠ F0 := fun z => by rw [z, upd_same] at hR; cases hR
  refine ⟨_, rfl, R, rfl, ⟨_, SqL.of gR⟩, for_list (K := K) (a := R) (xs := us) (fun i σ H4 => ∃ (ws : List V) (v3 v4 v5 v6 : Option V), σ = [some (.ref a), some (.ref F0), some (.ref R), v3, v4, v5, v6] ∧ Same H H4 ∧ H4 R = some (.lst us) ∧ H4 F0 = some (.lst ws) ∧ Rwq K H4 us rs ∧ Prq K H4 ws (nearL (rs.take i) rs))
    ⟨[], none, none, none, none, rfl, s02, gR, gF2, rw2, by rw [List.take_zero]; exact .nil⟩ (fun i σ H4 _ ⟨ws, v3, v4, v5, v6, _, _, g, _⟩ => SqL.of g) ?_ ?_⟩
  · rintro i x σ H4 hi ⟨ws, v3, v4, v5, v6, rfl, s4, gR4, gF4, rw4, pr4⟩
    obtain ⟨b, r, rfl, hr4, hb4⟩ := rw4.get hi
    have hi' : i < us.length := (List.getElem?_eq_some_iff.mp hi).1
    have tk : nearL (rs.take (i + 1)) rs = nearL (rs.take i) rs ++ nearLo r rs := by
      rw [List.take_succ, hr4]
      show (List.flatMap _ (_ ++ [_])) = _
      rw [List.flatMap_append]
      show _ ++ (nearLo r rs ++ []) = _
      rw [List.append_nil]; rfl
    refine ⟨_, rfl, R, rfl, ⟨_, SqL.of gR4⟩, for_list (K := K) (a := R) (xs := us) (fun j σ H5 => ∃ (ws : List V) (v4 v5 v6 : Option V), σ = [some (.ref a), some (.ref F0), some (.ref R), some (.ref b), v4, v5, v6] ∧ Same H H5 ∧ H5 R = some (.lst us) ∧ H5 F0 = some (.lst ws) ∧ Rwq K H5 us rs ∧ Prq K H5 ws (nearL (rs.take i) rs ++ nearLo r (rs.take j)))
      ⟨ws, v4, v5, v6, rfl, s4, gR4, gF4, rw4, by rw [List.take_zero]; show Prq _ _ _ (_ ++ []); rw [List.append_nil]; exact pr4⟩ (fun j σ H5 _ ⟨ws, v4, v5, v6, _, _, g, _⟩ => SqL.of g) ?_ ?_⟩
    · rintro j y σ H5 hj ⟨ws5, v4, v5, v6, rfl, s5, gR5, gF5, rw5, pr5⟩
      obtain ⟨c, r2, rfl, hr5, hc5⟩ := rw5.get hj
      obtain ⟨b', r', eb, hr4', hb5⟩ := rw5.get hi
      have er : r' = r := by rw [hr4] at hr4'; exact (Option.some.inj hr4').symm
      have eb' : b' = b := (V.ref.inj eb).symm
      subst er
      subst eb'
      have hrm := List.mem_of_getElem? hr4
      have hr2m := List.mem_of_getElem? hr5
      have e12 := rq _ hrm _ hr2m
      have l1 := rl _ hrm
      have tk2 : nearLo r' (rs.take (j + 1)) = nearLo r' (rs.take j) ++ (if distL r' r2 = 1 then [(r', r2)] else []) := by
        unfold nearLo
        rw [List.take_succ, hr5, List.filter_append, List.map_append]
        congr 1
        by_cases h1 : distL r' r2 = 1
        · rw [if_pos h1]
          show List.map _ (List.filter _ [r2]) = _
          rw [List.filter_cons, if_pos (by simpa using h1)]; rfl
        · rw [if_neg h1]
          show List.map _ (List.filter _ [r2]) = _
          rw [List.filter_cons, if_neg (by simpa using h1)]; rfl
      have lm : (r'.map V.int).length = r'.length := List.length_map ..
      have lm2 : (r2.map V.int).length = r2.length := List.length_map ..
      refine ⟨_, rfl, _, rfl, b', c, _, _, rfl, .inr ⟨hb5, hc5, fun D hD => ?_⟩⟩
      refine lc_it (walk_zt (n := r'.length) (by omega)) (fun k H6 => Same H5 H6 ∧ H6 D = some (.lst ((((r'.zip r2).take k).map fun p => absI (p.1 - p.2)).map V.int))) ⟨Same.upd hD, upd_same⟩ (fun k H6 _ ⟨s6, _⟩ => ⟨Same.seqT s6 hb5, Same.seqT s6 hc5⟩) ?_ ?_
      · rintro k x H6 H7 hk ⟨s6, gD⟩ ⟨TT, x1, x2, rfl, hT, rfl, e1, e2⟩
        have e1 : (r'.map V.int)[k]? = some x1 := e1
        have e2 : (r2.map V.int)[k]? = some x2 := e2
        have h1 : k < r'.length := hk
        have h2 : k < r2.length := by omega
        rw [List.getElem?_map, List.getElem?_eq_getElem h1] at e1
        rw [List.getElem?_map, List.getElem?_eq_getElem h2] at e2
        cases e1
        cases e2
        have sT : Same H6 (upd H6 TT (.tup [.int r'[k], .int r2[k]])) := Same.upd hT
        have s7 := s6.trans sT
        refine ⟨TT, _, rfl, .inl (.inl upd_same), rfl, _, _, rfl, _, _, rfl, rfl, rfl, tyes ⟨_, rfl, _, rfl, _, _, rfl, rfl, _, rfl, _, sT _ _ gD, small1000 (by rw [List.length_map, List.length_map, List.length_take]; omega), ?_, ?_⟩⟩
        · intro b3 o hb3
          rw [upd_ne (ne_of_none hb3 hD)]; exact s7 _ _ hb3
        · rw [upd_same]
          have ez : (r'.zip r2)[k]? = some (r'[k], r2[k]) := by
            rw [List.getElem?_zip_eq_some]; exact ⟨List.getElem?_eq_getElem h1, List.getElem?_eq_getElem h2⟩
          rw [List.take_succ, ez, List.map_append, List.map_append]; rfl
      · rintro H6 ⟨s6, gD⟩
        rw [List.take_of_length_le (by rw [List.length_zip]; omega)] at gD
        refine ⟨D, _, rfl, SqL.of gD, rfl, _, rfl, ?_⟩
        have ee : decide (V.int (((r'.zip r2).map fun p => absI (p.1 - p.2)).sum) = V.int 1) = decide (distL r' r2 = 1) := by
          rw [Bool.eq_iff_iff, decide_eq_true_eq, decide_eq_true_eq, V.int.injEq]; rfl
        rw [ee]
        have gF6 := s6 _ _ gF5
        have gR6 := s6 _ _ gR5
        by_cases h1 : distL r' r2 = 1
        · rw [if_pos h1] at tk2
          refine ifT (decide_eq_true h1) ⟨_, rfl, .inl ⟨rfl, _, SqL.of gF6⟩, _, rfl, _, rfl, (by show 2 ≤ sizeLine; decide), fun p hp7 => ?_⟩
          have s7 : Same H6 (upd H6 p (.tup [.ref b', .ref c])) := Same.upd hp7
          have g7 : (upd H6 p (.tup [.ref b', .ref c])) p = some (.tup [.ref b', .ref c]) := upd_same
          generalize upd H6 p (.tup [.ref b', .ref c]) = H7 at s7 g7 ⊢
          have s57 := s6.trans s7
          have gF7 := s7 _ _ gF6
          refine ⟨F0, ws5, _, rfl, rfl, gF7, small1000 ?_, ws5 ++ [.ref p], _, _, _, rfl, fun b3 o hb3 => ?_, ?_, upd_same, ?_, ?_⟩
          · have := bnd i j r' (by omega)
            rw [pr5.len]; omega
          · rw [upd_ne (ne_of_none hb3 hF)]; exact s57 _ _ (s5 _ _ hb3)
          · rw [upd_ne nRF]; exact s7 _ _ gR6
          · exact (rw5.same s57).gen fun c ys hc => SqT.lst gF7 hc
          · rw [tk2, ← List.append_assoc]
            exact ((pr5.same s57).gen fun c ys hc => SqT.lst gF7 hc).snoc (SqT.lst gF7 (.inl (.inl g7))) (SqT.lst gF7 (Same.seqT s57 hb5)) (SqT.lst gF7 (Same.seqT s57 hc5))
        · rw [if_neg h1, List.append_nil] at tk2
          refine ifF (decide_eq_false h1) ⟨ws5, _, _, _, rfl, s5.trans s6, gR6, gF6, rw5.same s6, ?_⟩
          rw [tk2]
          exact pr5.same s6
    · rintro σ H5 ⟨ws5, v4, v5, v6, rfl, s5, gR5, gF5, rw5, pr5⟩
      have e1 : rs.take us.length = rs := List.take_of_length_le (by omega)
      rw [e1, ← tk] at pr5
      exact ⟨ws5, _, v4, v5, v6, rfl, s5, gR5, gF5, rw5, pr5⟩
  · rintro σ H4 ⟨ws, v3, v4, v5, v6, rfl, s4, gR4, gF4, rw4, pr4⟩
    rw [List.take_of_length_le (by omega)] at pr4
    exact ⟨_, rfl, q F0 ws H4 hF s4 gF4 pr4⟩
end
end Ms
namespace Ms
open PySem PySem.Spec PyProof.Rows L2 RZ
/-! ### the law's own pairs of standings -/
theorem eqv_row (r s : List Int) : PyData.eqv (rowD r) (rowD s) = decide (r = s) := eqv_intsB r s
def pairsLo (r : List Int) (rs : List (List Int)) : List (List Int × List Int) := (rs.filter fun s => !decide (s = r)).map fun s => (r, s)
def pairsL (us rs : List (List Int)) : List (List Int × List Int) := us.flatMap fun r => pairsLo r rs
theorem pairsLo_le (r : List Int) (rs : List (List Int)) : (pairsLo r rs).length ≤ rs.length := by
  unfold pairsLo
  rw [List.length_map]
  exact List.length_filter_le _ _
theorem pairsL_le : ∀ (us rs : List (List Int)), (pairsL us rs).length ≤ us.length * rs.length
  | [], rs => by simp [pairsL]
  | r :: us, rs => by
    have h1 := pairsLo_le r rs
    have h2 := pairsL_le us rs
    show (pairsLo r rs ++ pairsL us rs).length ≤ (us.length + 1) * rs.length
    rw [List.length_append, Nat.add_mul]
    omega
theorem Prq.app {K : PySem.W.Frag} {H : Hp} : ∀ {vs ws : List V} {ps qs : List (List Int × List Int)}, Prq K H vs ps → Prq K H ws qs → Prq K H (vs ++ ws) (ps ++ qs)
  | [], _, _, _, h, h' => by cases h; exact h'
  | v :: vs, _, _, _, h, h' => by
    cases h with
    | cons h1 h2 h3 h4 => exact .cons h1 h2 h3 (Prq.app h4 h')
section
variable {P : Program} {w : World} {K : PySem.W.Frag} {mg : Str → Option Value} {base : Heap} {fN fLs : Addr}
abbrev NLp6 : List Str := ["spots", "found", "rows", "one", "other"]
theorem scLp6 : FnScope NLp6 ["spots"] (defScope sLPairs) := ⟨rfl, rfl, rfl, by decide +kernel, rfl, by decide +kernel, by decide +kernel⟩
def spLPairs (K : PySem.W.Frag) : Sp := fun vs H Q _ => ∃ (a : Addr) (xs : List V) (qs : List (Str × Int)), vs = [.ref a] ∧ SqT K H a xs ∧ PrTs K H xs qs ∧ qs.length ≤ 3 ∧ (∀ q ∈ qs, 1 ≤ q.2 ∧ q.2 ≤ 3) ∧ (grid qs).length ≤ 12 ∧
  ∀ R vs' H', H R = none → Same H H' → H' R = some (.lst vs') → Prq K H' vs' (pairsL (grid qs) (grid qs)) → Q (.ref R) H'
theorem ok_lpairs {f : Addr} {fd fdLs : FuncData} (F : Fun K "_law_pairs" "_law_pairs" sLPairs f fd) (T : TxtN mg fN) (gLs : mg "_law_standings" = some (.ref fLs)) (FLs : Fun K "_law_standings" "_law_standings" sStandings fLs fdLs) (bLs : Binds K fdLs ["spots"] []) :
    FnOk P w K mg base CX0 2 f fd ["spots"] (spLPairs K) := by
  have GLs : FnOk P w K mg base CX0 1 fLs fdLs ["spots"] (spLStand K) := ok_lstand FLs T
  refine F.ok scLp6 (fun vs H Q E h => ?_) (fun cdv A outer s H vs Q E hr h => ?_)
  · obtain ⟨a, xs, qs, rfl, _⟩ := h
    rfl
  obtain ⟨a, xs, qs, rfl, hs, hp, hl, hb, g12, q⟩ := h
  refine ⟨_, pss_cons (ps_par (i := 1) (j := 2) (by rfl) scLp6.nd rfl rfl (by decide) rfl rfl (pa_cons (pe_lst pa_nil) (pa_cons (pe_call GLs hr (by rfl) gLs FLs.kp bLs .nil pass0 (pa_cons (pv 0) pa_nil)) pa_nil)) (by rfl))
    (pss_cons (ps_for PassesOwn.never rfl (pi_list (pv 2)) (pg_name (i := 3) scLp6.nd rfl (by first | exact Or.inl rfl | exact Or.inr rfl))
      (pss_one (ps_set (i := 1) scLp6.nd rfl (by first | exact Or.inl rfl | exact Or.inr rfl) (pe_op op_cat (pv 1)
        (pe_lc (own := [("other", 4)]) (g := gName 4) (by rfl) scLp6.nd (pi_list (pv 2)) (blkOk_by (own := [("other", 4)]) (N := NLp6) (sc := defScope sLPairs) (by decide +kernel))
          (fun _ _ _ _ _ => pg_name (i := 4) scLp6.nd rfl (by first | exact Or.inl rfl | exact Or.inr rfl)) (fun _ _ _ _ _ => pts_one (pt_cmpR (show OpR _ (compareOp .NotEq) (rNeD K) from op_neD (by exact hr.units)) (pv 4) (pv 3) (by rfl))) (fun _ _ _ _ _ => pe_tup (pa_cons (pv 3) (pa_cons (pv 4) pa_nil))))))))
    (pss_one (ps_ret (pv 1)))), ?_⟩
  refine ⟨(by show 0 ≤ sizeLine; decide), fun F0 hF => ⟨_, rfl, a, xs, qs, rfl, Same.seqT (Same.upd hF) hs, PrTs.same (Same.upd hF) hp, hl, hb, fun R us H2 hR s2 gR rw2 => ⟨_, _, rfl, ?_⟩⟩⟩
  have s02 : Same H H2 := (Same.upd hF).trans s2
  have gF2 : H2 F0 = some (.lst []) := s2 _ _ upd_same
  obtain ⟨rs, ers⟩ : ∃ rs, rs = grid qs := ⟨_, rfl⟩
  rw [← ers] at rw2 q g12
  have lu := rw2.len
  have bnd : ∀ (i j : Nat) (r : List Int), i ≤ rs.length → (pairsL (rs.take i) rs).length + (pairsLo r (rs.take j)).length ≤ 999 := fun i j r hi => by
    have h1 := pairsL_le (rs.take i) rs
    have h2 := pairsLo_le r (rs.take j)
    rw [List.length_take] at h1 h2
    have h3 : min i rs.length * rs.length ≤ 12 * 12 := Nat.mul_le_mul (by omega) (by omega)
    omega
  refine ⟨_, rfl, R, rfl, ⟨_, SqL.of gR⟩, for_list (K := K) (a := R) (xs := us) (fun i σ H4 => ∃ (F1 : Addr) (ws : List V) (v3 v4 : Option V), σ = [some (.ref a), some (.ref F1), some (.ref R), v3, v4] ∧ H F1 = none ∧ Same H H4 ∧ H4 R = some (.lst us) ∧ H4 F1 = some (.lst ws) ∧ Rwq K H4 us rs ∧ Prq K H4 ws (pairsL (rs.take i) rs))
    ⟨F0, [], none, none, rfl, hF, s02, gR, gF2, rw2, by rw [List.take_zero]; exact .nil⟩ (fun i σ H4 _ ⟨F1, ws, v3, v4, _, _, _, g, _⟩ => SqL.of g) ?_ ?_⟩
  · rintro i x σ H4 hi ⟨F1, ws, v3, v4, rfl, hF1, s4, gR4, gF4, rw4, pr4⟩
    obtain ⟨b, r, rfl, hr4, hb4⟩ := rw4.get hi
    have hi' : i < us.length := (List.getElem?_eq_some_iff.mp hi).1
    have tk : pairsL (rs.take (i + 1)) rs = pairsL (rs.take i) rs ++ pairsLo r rs := by
      rw [List.take_succ, hr4]
      show (List.flatMap _ (_ ++ [_])) = _
      rw [List.flatMap_append]
      show _ ++ (pairsLo r rs ++ []) = _
      rw [List.append_nil]; rfl
    refine ⟨_, rfl, _, rfl, R, rfl, ⟨_, SqL.of gR4⟩, fun D hD => ?_⟩
    have hDH : H D = none := Same.free s4 hD
    refine lc_it (walk_list (xs := us)) (fun j H5 => Same H4 H5 ∧ ∃ zs : List V, H5 D = some (.lst zs) ∧ Prq K H5 zs (pairsLo r (rs.take j))) ⟨Same.upd hD, [], upd_same, by rw [List.take_zero]; exact .nil⟩ (fun j H5 _ ⟨s5, _⟩ => SqL.of (s5 _ _ gR4)) ?_ ?_
    · rintro j y H5 H6 hj ⟨s5, zs, gD, pz⟩ ⟨rfl, hy⟩
      obtain ⟨c, r2, rfl, hr5, hc4⟩ := rw4.get hy
      have hb5 := Same.seqT s5 hb4
      have hc5 := Same.seqT s5 hc4
      have tk2 : pairsLo r (rs.take (j + 1)) = pairsLo r (rs.take j) ++ (if r2 = r then [] else [(r, r2)]) := by
        unfold pairsLo
        rw [List.take_succ, hr5, List.filter_append, List.map_append]
        congr 1
        by_cases h1 : r2 = r
        · rw [if_pos h1]
          show List.map _ (List.filter _ [r2]) = _
          rw [List.filter_cons, if_neg (by simpa using h1)]; rfl
        · rw [if_neg h1]
          show List.map _ (List.filter _ [r2]) = _
          rw [List.filter_cons, if_pos (by simpa using h1)]; rfl
      refine ⟨rfl, _, rfl, _, rfl, rowD r2, rowD r, Dp.tup hc5 (dpAll_ints r2), Dp.tup hb5 (dpAll_ints r), shaped_tints _, shaped_tints _, _, rfl, ?_⟩
      rw [eqv_row]
      by_cases h1 : r2 = r
      · rw [if_pos h1, List.append_nil] at tk2
        refine ifF (by rw [decide_eq_true h1]; rfl) ⟨s5, zs, gD, ?_⟩
        rw [tk2]; exact pz
      · rw [if_neg h1] at tk2
        refine ifT (by rw [decide_eq_false h1]; rfl) ⟨_, rfl, _, rfl, (by show 2 ≤ sizeLine; decide), fun p hp7 => ?_⟩
        have s7 : Same H6 (upd H6 p (.tup [.ref b, .ref c])) := Same.upd hp7
        have g7 : (upd H6 p (.tup [.ref b, .ref c])) p = some (.tup [.ref b, .ref c]) := upd_same
        generalize upd H6 p (.tup [.ref b, .ref c]) = H7 at s7 g7 ⊢
        have gD7 := s7 _ _ gD
        refine ⟨zs, gD7, small1000 ?_, fun b3 o hb3 => ?_, zs ++ [.ref p], upd_same, ?_⟩
        · have := bnd i j r (by omega)
          rw [pz.len]; omega
        · rw [upd_ne (ne_of_none hb3 hD)]; exact s7 _ _ (s5 _ _ hb3)
        · rw [tk2]
          exact ((pz.same s7).gen fun c ys hc => SqT.lst gD7 hc).snoc (SqT.lst gD7 (.inl (.inl g7))) (SqT.lst gD7 (Same.seqT s7 hb5)) (SqT.lst gD7 (Same.seqT s7 hc5))
    · rintro H5 ⟨s5, zs, gD, pz⟩
      have e1 : rs.take us.length = rs := List.take_of_length_le (by omega)
      rw [e1] at pz
      have bb := bnd i rs.length r (by omega)
      rw [List.take_of_length_le (Nat.le_refl _)] at bb
      refine ⟨F1, D, ws, zs, rfl, rfl, s5 _ _ gF4, gD, Nat.le_of_lt (small1000 (by rw [pr4.len, pz.len]; omega)), fun p hp7 => ?_⟩
      have s6 : Same H5 (upd H5 p (.lst (ws ++ zs))) := Same.upd hp7
      have s56 := s5.trans s6
      exact ⟨p, ws ++ zs, _, _, rfl, Same.free (s4.trans s5) hp7, s4.trans s56, s56 _ _ gR4, upd_same, rw4.same s56, by rw [tk]; exact (pr4.same s56).app (pz.same s6)⟩
  · rintro σ H4 ⟨F1, ws, v3, v4, rfl, hF1, s4, gR4, gF4, rw4, pr4⟩
    rw [List.take_of_length_le (by omega)] at pr4
    exact ⟨_, rfl, q F1 ws H4 hF1 s4 gF4 pr4⟩
end
end Ms
namespace Ms
open PySem PySem.Spec PyProof.Rows L2
/-! ### pairs of rows told apart by their repr -/
theorem hd_front {d : PyData} {c : Nat} {rest : List Nat} (h : d.shown.cps.toList.head? = some c) : (d.shown.cps.toList ++ rest).head? = some c := by
  cases q : d.shown.cps.toList with
  | nil => rw [q] at h; cases h
  | cons a r => rw [q] at h; exact h
/-- what begins with a round bracket is a tuple -/
theorem tup_front {d : PyData} {rest : List Nat} (h : (d.shown.cps.toList ++ rest).head? = some 40) : ∃ ds, d = .tuple ds := by
  have no : ∀ {c : Nat}, d.shown.cps.toList.head? = some c → c = 40 := fun {c} e => by
    rw [hd_front e] at h
    exact Option.some.inj h
  cases d with
  | tuple ds => exact ⟨ds, rfl⟩
  | none => exact absurd (no (c := 78) (by decide +kernel)) (by decide)
  | bool b =>
    cases b with
    | false => exact absurd (no (c := 70) (by decide +kernel)) (by decide)
    | true => exact absurd (no (c := 84) (by decide +kernel)) (by decide)
  | int j =>
    exfalso
    have es : (PyData.int j).shown.cps.toList = (Str.ofString (toString j)).cps.toList := rfl
    cases q : (PyData.int j).shown.cps.toList with
    | nil =>
      have hn : (Str.ofString (toString j)).cps.toList ≠ [] := by
        cases j with
        | ofNat n =>
          rw [show (Int.ofNat n) = ((n : Nat) : Int) from rfl, PySem.W.KIN.signs_num n]
          intro z
          exact Nat.toDigits_ne_nil (List.map_eq_nil_iff.mp z)
        | negSucc n =>
          rw [signs_ofString]
          show ("-" ++ Nat.repr (n + 1)).toList.map Char.toNat ≠ _
          rw [String.toList_append, List.map_append, Nat.toList_repr]
          exact fun z => nomatch z
      exact hn (es.symm.trans q)
    | cons a t =>
      have e1 := no (c := a) (by rw [q]; rfl)
      have := int_signs j a (by rw [← es, q]; exact List.mem_cons_self ..)
      omega
  | str z =>
    exfalso
    have e0 : (PyData.str z).shown = reprText z := by simp only [PyData.shown]
    have q := no (c := reprQuote z) (by rw [e0, repr_list]; rfl)
    unfold reprQuote at q
    split at q <;> omega
  | list xs =>
    exfalso
    have key : ∀ (ts : List Str) (k : Nat) (acc : Str), hd? acc = some 91 → hd? (textFrom k acc ts) = some 91 := by
      intro ts
      induction ts with
      | nil => intro k acc h; exact h
      | cons t r ih => intro k acc h; exact ih _ _ (hd_app (hd_app h))
    have z := hd_app (y := "]") (key (PyData.shownAll xs) 0 "[" (by decide +kernel))
    unfold hd? at z
    have e0 : (PyData.list xs).shown = textFrom 0 "[" (PyData.shownAll xs) ++ ("]" : String) := by simp only [PyData.shown]; rfl
    exact absurd (no (c := 91) (by rw [e0]; exact z)) (by decide)
  | dict kvs =>
    exfalso
    have z : hd? (("{" : Str) ++ Str.join ", " (PyData.shownKv kvs) ++ ("}" : String)) = some 123 := hd_app (hd_app (by decide +kernel))
    unfold hd? at z
    have e0 : (PyData.dict kvs).shown = ("{" : Str) ++ Str.join ", " (PyData.shownKv kvs) ++ ("}" : String) := by simp only [PyData.shown]; rfl
    exact absurd (no (c := 123) (by rw [e0]; exact z)) (by decide)
theorem tup_nil : (PyData.tuple []).shown.cps.toList = [40, 41] := by decide +kernel
theorem join_of : ∀ (is : List Int) (ds : List PyData) (rest rest' : List Nat), is ≠ [] → ds ≠ [] → (∀ i ∈ is, 0 ≤ i ∧ i ≤ 9) → joinS ds ++ (41 :: rest) = joinS (is.map .int) ++ (41 :: rest') → ds = is.map .int ∧ rest = rest'
  | [], _, _, _, h, _, _, _ => absurd rfl h
  | _, [], _, _, _, h, _, _ => absurd rfl h
  | i :: is, d :: ds, rest, rest', _, _, hi, e => by
    obtain ⟨h0, h9⟩ := hi i (List.mem_cons_self ..)
    cases is with
    | nil =>
      rw [show List.map PyData.int [i] = [.int i] from rfl, join_one (.int i), shown_int h0 h9] at e
      cases ds with
      | nil =>
        rw [join_one] at e
        obtain ⟨e1, e2⟩ := item_of h0 h9 e (.inr rfl)
        rw [e1]
        exact ⟨rfl, (List.cons.inj e2).2⟩
      | cons d2 ds =>
        rw [join_more, List.append_assoc] at e
        have := (item_of h0 h9 e (.inr rfl)).2
        cases this
    | cons i2 is =>
      rw [show List.map PyData.int (i :: i2 :: is) = .int i :: .int i2 :: is.map .int from rfl, join_more, shown_int h0 h9] at e
      cases ds with
      | nil =>
        rw [join_one] at e
        have := (item_of h0 h9 e (.inl rfl)).2
        cases this
      | cons d2 ds =>
        rw [join_more, List.append_assoc] at e
        obtain ⟨e1, e2⟩ := item_of h0 h9 e (.inl rfl)
        have e3 : joinS (d2 :: ds) ++ (41 :: rest) = joinS ((i2 :: is).map .int) ++ (41 :: rest') := (List.cons.inj (List.cons.inj e2).2).2
        obtain ⟨e4, e5⟩ := join_of (i2 :: is) (d2 :: ds) rest rest' nofun nofun (fun x hx => hi x (List.mem_cons_of_mem _ hx)) e3
        rw [e1, e4]
        exact ⟨rfl, e5⟩
theorem row_of {d : PyData} {is : List Int} {rest rest' : List Nat} (hi : ∀ i ∈ is, 0 ≤ i ∧ i ≤ 9) (hl : is ≠ []) (e : d.shown.cps.toList ++ rest = (rowD is).shown.cps.toList ++ rest') : d = rowD is ∧ rest = rest' := by
  obtain ⟨i, r, rfl⟩ : ∃ i r, is = i :: r := by
    cases is with
    | nil => exact absurd rfl hl
    | cons i r => exact ⟨i, r, rfl⟩
  obtain ⟨h0, h9⟩ := hi i (List.mem_cons_self ..)
  obtain ⟨tl, ht⟩ : ∃ tl, (rowD (i :: r)).shown.cps.toList = 40 :: tl := by
    cases r with
    | nil => exact ⟨_, tup_one (.int i)⟩
    | cons j r => exact ⟨_, tup_more (.int i) (.int j) (r.map .int)⟩
  obtain ⟨ds, rfl⟩ := tup_front (d := d) (rest := rest) (by rw [e, ht]; rfl)
  cases r with
  | nil =>
    rw [show rowD [i] = .tuple [.int i] from rfl, tup_one, shown_int h0 h9] at e
    match ds with
    | [] =>
      rw [tup_nil] at e
      have e3 := (List.cons.inj (List.cons.inj e).2).1
      exact absurd e3 (by omega)
    | [x] =>
      rw [tup_one] at e
      simp only [List.cons_append, List.append_assoc, List.nil_append] at e
      have e2 := (List.cons.inj e).2
      obtain ⟨e3, e4⟩ := item_of h0 h9 e2 (.inl rfl)
      rw [e3]
      exact ⟨rfl, (List.cons.inj (List.cons.inj e4).2).2⟩
    | x :: y :: q =>
      rw [tup_more, join_more] at e
      simp only [List.cons_append, List.append_assoc, List.nil_append] at e
      have e2 := (List.cons.inj e).2
      have := (item_of h0 h9 e2 (.inl rfl)).2
      have e5 := (List.cons.inj (List.cons.inj this).2).1
      exact absurd e5 (by decide)
  | cons j r =>
    rw [show rowD (i :: j :: r) = .tuple (.int i :: .int j :: r.map .int) from rfl, tup_more] at e
    match ds with
    | [] =>
      rw [tup_nil, join_more, shown_int h0 h9] at e
      have e3 := (List.cons.inj (List.cons.inj e).2).1
      exact absurd e3 (by omega)
    | [x] =>
      rw [tup_one, join_more, shown_int h0 h9] at e
      simp only [List.cons_append, List.append_assoc, List.nil_append] at e
      have e2 := (List.cons.inj e).2
      have := (item_of h0 h9 e2 (.inl rfl)).2
      have e5 := (List.cons.inj (List.cons.inj this).2).1
      exact absurd e5 (by decide)
    | x :: y :: q =>
      rw [tup_more] at e
      simp only [List.cons_append, List.append_assoc, List.nil_append] at e
      have e2 := (List.cons.inj e).2
      obtain ⟨e3, e4⟩ := join_of (i :: j :: r) (x :: y :: q) rest rest' nofun nofun hi e2
      rw [e3]
      exact ⟨rfl, e4⟩
theorem row_shown {d : PyData} {is : List Int} (hi : ∀ i ∈ is, 0 ≤ i ∧ i ≤ 9) (hl : is ≠ []) : d.shown = (rowD is).shown ↔ d = rowD is :=
  ⟨fun e => (row_of (rest := []) (rest' := []) hi hl (by rw [e])).1, fun e => by rw [e]⟩
theorem pair_shown {d : PyData} {r s : List Int} (hi : ∀ i ∈ r, 0 ≤ i ∧ i ≤ 9) (hl : r ≠ []) (hj : ∀ i ∈ s, 0 ≤ i ∧ i ≤ 9) (hm : s ≠ []) : d.shown = (pairD r s).shown ↔ d = pairD r s := by
  refine ⟨fun e => ?_, fun e => by rw [e]⟩
  have e : d.shown.cps.toList = (pairD r s).shown.cps.toList := by rw [e]
  rw [show pairD r s = .tuple [rowD r, rowD s] from rfl, tup_more, join_more, join_one] at e
  obtain ⟨ds, rfl⟩ := tup_front (d := d) (rest := []) (by rw [List.append_nil, e]; rfl)
  match ds with
  | [] =>
    exfalso
    rw [tup_nil] at e
    have e2 := (List.cons.inj e).2
    have l := congrArg List.length e2
    rw [List.length_append, List.length_append] at l
    simp at l
  | [x] =>
    exfalso
    rw [tup_one] at e
    simp only [List.cons_append, List.append_assoc, List.nil_append] at e
    have e2 := (List.cons.inj e).2
    have := (row_of hi hl e2).2
    have e5 := (List.cons.inj (List.cons.inj this).2).1
    exact absurd e5 (by decide)
  | x :: y :: q =>
    rw [tup_more, join_more] at e
    simp only [List.cons_append, List.append_assoc, List.nil_append] at e
    have e2 := (List.cons.inj e).2
    obtain ⟨e3, e4⟩ := row_of hi hl e2
    have e5 := (List.cons.inj (List.cons.inj e4).2).2
    cases q with
    | nil =>
      rw [join_one] at e5
      rw [e3, (row_of hj hm e5).1]; rfl
    | cons z q =>
      exfalso
      rw [join_more, List.append_assoc] at e5
      have := (row_of hj hm e5).2
      have e6 := (List.cons.inj this).1
      exact absurd e6 (by decide)
theorem mem_pairsL {us rs : List (List Int)} {r s : List Int} : (r, s) ∈ pairsL us rs ↔ r ∈ us ∧ s ∈ rs ∧ r ≠ s := by
  unfold pairsL pairsLo
  rw [List.mem_flatMap]
  constructor
  · rintro ⟨a, ha, h⟩
    obtain ⟨b, hb, e⟩ := List.mem_map.mp h
    obtain ⟨h1, h2⟩ := List.mem_filter.mp hb
    injection e with e1 e2
    subst e1
    subst e2
    exact ⟨ha, h1, fun z => by rw [z] at h2; simp at h2⟩
  · rintro ⟨h1, h2, h3⟩
    exact ⟨r, h1, List.mem_map.mpr ⟨s, List.mem_filter.mpr ⟨h2, by simpa using fun z => h3 z.symm⟩, rfl⟩⟩
/-- the rows of a grid of small settings -/
theorem grid_digits {qs : List (Str × Int)} (l1 : 1 ≤ qs.length) (b : ∀ q ∈ qs, 1 ≤ q.2 ∧ q.2 ≤ 3) {r : List Int} (h : r ∈ grid qs) : (∀ i ∈ r, 0 ≤ i ∧ i ≤ 9) ∧ r ≠ [] := by
  have so : stOk qs r := (mem_grid fun q hq => by have := b q hq; omega).mp h
  have lr : r.length = qs.length := so.1
  refine ⟨fun i hi => ?_, fun z => by rw [z] at lr; simp at lr; omega⟩
  obtain ⟨j, hj⟩ := List.mem_iff_getElem?.mp hi
  have jl : j < qs.length := by
    rw [← lr]
    exact (List.getElem?_eq_some_iff.mp hj).1
  have hq : qs[j]? = some qs[j] := List.getElem?_eq_getElem jl
  have := so.2 j _ i hq hj
  have := b _ (List.mem_of_getElem? hq)
  omega
theorem known_row {qs : List (Str × Int)} (l1 : 1 ≤ qs.length) (b : ∀ q ∈ qs, 1 ≤ q.2 ∧ q.2 ≤ 3) (d : PyData) : decide (d.shown ∈ ((grid qs).map rowD).map PyData.shown) = standD qs d := by
  have h0 : ∀ q ∈ qs, 0 ≤ q.2 := fun q hq => by have := b q hq; omega
  rw [Bool.eq_iff_iff, decide_eq_true_eq]
  constructor
  · intro h
    obtain ⟨e, he, hs⟩ := List.mem_map.mp h
    obtain ⟨r, hr, rfl⟩ := List.mem_map.mp he
    obtain ⟨g1, g2⟩ := grid_digits l1 b hr
    rw [(row_shown g1 g2).mp hs.symm]
    exact st_stand ((mem_grid h0).mp hr)
  · intro h
    obtain ⟨r, rfl, hr⟩ := stand_st h
    exact List.mem_map.mpr ⟨_, List.mem_map.mpr ⟨r, (mem_grid h0).mpr hr, rfl⟩, rfl⟩
theorem known_pair {qs : List (Str × Int)} (l1 : 1 ≤ qs.length) (b : ∀ q ∈ qs, 1 ≤ q.2 ∧ q.2 ≤ 3) (d : PyData) : decide (d.shown ∈ ((pairsL (grid qs) (grid qs)).map fun q => pairD q.1 q.2).map PyData.shown) = switchD qs d := by
  have h0 : ∀ q ∈ qs, 0 ≤ q.2 := fun q hq => by have := b q hq; omega
  rw [Bool.eq_iff_iff, decide_eq_true_eq]
  constructor
  · intro h
    obtain ⟨e, he, hs⟩ := List.mem_map.mp h
    obtain ⟨⟨r, s⟩, hr, rfl⟩ := List.mem_map.mp he
    obtain ⟨m1, m2, ne⟩ := mem_pairsL.mp hr
    obtain ⟨g1, g2⟩ := grid_digits l1 b m1
    obtain ⟨g3, g4⟩ := grid_digits l1 b m2
    rw [(pair_shown g1 g2 g3 g4).mp hs.symm]
    show (standD qs (rowD r) && (standD qs (rowD s) && !PyData.eqv (rowD r) (rowD s))) = true
    rw [show standD qs (rowD r) = true from st_stand ((mem_grid h0).mp m1), show standD qs (rowD s) = true from st_stand ((mem_grid h0).mp m2), eqv_rowD, decide_eq_false ne]; rfl
  · intro h
    obtain ⟨r, s, rfl, hr, hs, ne⟩ := switch_pr h0 h
    exact List.mem_map.mpr ⟨_, List.mem_map.mpr ⟨(r, s), mem_pairsL.mpr ⟨hr, hs, ne⟩, rfl⟩, rfl⟩
end Ms
namespace Ms
open PySem PySem.Spec PyProof.Rows L2
/-! ### a def that is called where no repr is under way -/
structure FnG (P : Program) (w : World) (K : PySem.W.Frag) (mg : Str → Option Value) (base : Heap) (k : Nat) (f : Addr) (fd : FuncData) (ps : List Str) (sp : Sp) : Prop where
  len : ∀ vs H Q E, sp vs H Q E → vs.length = ps.length
  run : ∀ (A : Around) (outer : List Env) (s : Shared) (H : Hp) (args : Args) (us : List Value) (vs : List V) (Q : VK) (E : XK), A.guards = some [] → Room k A → Env0 P w K mg base A outer s H → BindsTo s fd args (ps.zip us) → Vals vs us → sp vs H Q E →
    codeAny (model P w) A (.call (.ref f) args) (CR CX0 outer P w H s Q E) s
section
variable {P : Program} {w : World} {K : PySem.W.Frag} {mg : Str → Option Value} {base : Heap}
theorem FnG.mono {j k : Nat} {f : Addr} {fd : FuncData} {ps : List Str} {sp : Sp} (F : FnG P w K mg base j f fd ps sp) (h : j ≤ k) : FnG P w K mg base k f fd ps sp :=
  ⟨F.len, fun A outer s H args us vs Q E g hr => F.run A outer s H args us vs Q E g (hr.mono h)⟩
theorem okG {x qual : Str} {st : Stmt} {f : Addr} {fd : FuncData} {N ps : List Str} {k : Nat} {sp : Sp} (F : Fun K x qual st f fd) (S : FnScope N ps (defScope st)) (len : ∀ vs H Q E, sp vs H Q E → vs.length = ps.length)
    (hbody : ∀ (cdv : Value) (A : Around) (outer : List Env) (s : Shared) (H : Hp) (vs : List V) (Q : VK) (E : XK), (A.deeper (envOfC qual (defScope st) s.heap.objs.size f cdv)).guards = some [] → Room k (A.deeper (envOfC qual (defScope st) s.heap.objs.size f cdv)) → sp vs H Q E →
      ∃ t, PSs (cxOf CX0 P w K mg base N qual (defScope st) f cdv A outer s H E).nox (defBody st) t ∧ t { nx := fun _ H' => Q .non H', rt := Q } (start N vs) H) : FnG P w K mg base (k + 1) f fd ps sp :=
  ⟨len, fun A outer s H args us vs Q E g hr e0 hb r h => run_known F S g hr e0 hb r (len _ _ _ _ h) fun cdv hr' => hbody cdv A outer s H vs Q E g hr' h⟩
end
section
variable {X : Cx} {k : Nat} {f : Addr} {fd : FuncData} {ps : List Str} {sp : Sp} {dvs : List V} {ds : List Value} {E : XK} {x : Str} {p pos : Pos} {e : Expr} {es : List Expr} {t : TA}
theorem run_g {pins : List (Addr × Obj)} {σ : L2.St} {H : Hp} {s : Shared} {Q : VK} {us : List Value} {vs : List V} (F : FnG X.prog X.w X.K X.mg X.base k f fd ps sp) (g : X.A.guards = some []) (hr : Room k X.A) (hb : Binds X.K fd ps ds) (hd : Vals dvs ds)
    (I : Inv X pins σ H s) (r : Vals vs us) (h : sp (vs ++ dvs) H Q E) : wpAny (model X.prog X.w) X.A (call (.ref f) us) (EP X pins σ Q) X.xe s := by
  have both : Vals (vs ++ dvs) (us ++ ds) := r.append hd
  have ln : (us ++ ds).length = ps.length := by rw [← both.length]; exact F.len _ _ _ _ h
  refine wpAny_call (codeAny_mono (F.run X.A X.stack s H ⟨us, []⟩ (us ++ ds) (vs ++ dvs) Q E g hr I.env0 (hb s us I.kIn ln) both h) fun res s' ok => ?_)
  match res, ok with
  | .ok (.ret u), ok => exact I.after ok
  | .error _, ok => exact ok.elim
theorem pe_callG (F : FnG X.prog X.w X.K X.mg X.base k f fd ps sp) (g : X.A.guards = some []) (hr : Room k X.A) (hg : Gl X x) (hm : X.mg x = some (.ref f)) (hk : PySem.W.keepIn X.K (.ref f) = true) (hb : Binds X.K fd ps ds) (hd : Vals dvs ds)
    (ha : PA X (e :: es) t) (hdb : (x == ("__debug__" : Str)) = false := by decide) (he : starEach (e :: es) X.env = (false, eval e X.env) :: starEach es X.env := by rfl) (hpl : (backTo pos (starEach es X.env)).any (·.1) = false := by rfl) :
    PE X (.Call (.Name x p) (e :: es) [] pos) (tCall sp dvs E0 t) := by
  constructor
  intro pins s σ H Q I reads
  refine wpAny_Call_Name_kw (ld_glob I hg hm ?_ hdb)
  refine PySem.W.callWith_K (h₀ := X.base) I.ok.mod.kin hk (thn (ha.run pos pins s σ H _ I reads) fun us s1 got => ?_) he hpl
  obtain ⟨vs, H1, I1, r, q⟩ := got
  exact ⟨I1.kIn, run_g F g hr hb hd I1 r q⟩
end
end Ms
namespace Ms
open PySem PySem.Spec PyProof.Rows L2
/-! ### _law_fault -/
/-- the place of what is wrong first, as data -/
def badW (Pd : PyData → Bool) (d : PyData) : Option PyData := match d with
  | .tuple ds => (firstW Pd none 0 ds).map fun p => .int (p : Nat)
  | _ => some .none
def faultD (Pd : PyData → Bool) (d : PyData) : PyData := match badW Pd d with
  | none => .none
  | some u => .tuple [u]
structure TxtF (mg : Str → Option Value) : Prop where
  isi : mg "isinstance" = none
  tuple : mg "tuple" = none
  repr : mg "repr" = none
  enumerate : mg "enumerate" = none
def rReprF (K : PySem.W.Frag) : List V → Hp → VK → Prop := fun xs H Q => ∃ x d m l, xs = [x] ∧ Dq K H m l x d ∧ d.showable = true ∧ d.depth ≤ 60 ∧ d.shown.length ≤ sizeLine ∧ Q (.str d.shown) H
section
variable {P : Program} {w : World} {K : PySem.W.Frag} {mg : Str → Option Value} {base : Heap}
abbrev NFt : List Str := ["some", "thing", "known", "place", "one"]
theorem scFt : FnScope NFt ["some", "thing"] (defScope sFault) := ⟨rfl, rfl, rfl, by decide +kernel, rfl, by decide +kernel, by decide +kernel⟩
def spFault (K : PySem.W.Frag) : Sp := fun vs H Q _ => ∃ (m l R : Addr) (us : List V) (ks : List PyData) (v : V) (d : PyData) (b : Nat) (Pd : PyData → Bool), vs = [.ref R, v] ∧ H R = some (.lst us) ∧ DqAll K H m l us ks ∧ us.length ≤ 900 ∧ (∀ k ∈ ks, Gd (10 ^ 31) 100000 60 k) ∧
  (∀ e, decide (e.shown ∈ ks.map PyData.shown) = Pd e) ∧ (∀ e e', Pd e = true → Pd e' = true → PySem.W.alike e e' = true ∧ noDi e = true ∧ e ≠ .none ∧ e.depth ≤ 60) ∧ Dq K H m l v d ∧ Gd (10 ^ 31) 100000 b d ∧ b ≤ 60 ∧
  ∀ (v' : V) (H' : Hp), Same H H' → Dq K H' m l v' (faultD Pd d) → Q v' H'
theorem ok_fault {f : Addr} {fd : FuncData} (F : Fun K "_law_fault" "_law_fault" sFault f fd) (T : TxtF mg) : FnG P w K mg base 1 f fd ["some", "thing"] (spFault K) := by
  refine okG F scFt (fun vs H Q E h => ?_) (fun cdv A outer s H vs Q E gA hr h => ?_)
  · obtain ⟨m, l, R, us, ks, v, d, b, Pd, rfl, _⟩ := h
    rfl
  obtain ⟨m, l, R, us, ks, v, d, b, Pd, rfl, hR, hk, l9, gk, kn, al, hd, gd, hb, q⟩ := h
  refine ⟨_, pss_cons (ps_if (pt_not (pt_val (pe_callB call_isi (by rfl) T.isi PyProof.Rows.boot_isinstance (pa_cons (pv 1) (pa_cons (pe_bltn (v := .ty "tuple") (u := .type "tuple") (by rfl) T.tuple (by decide +kernel) rfl) pa_nil))))) (pss_one (ps_ret (pe_tup (pa_cons pe_non pa_nil)))) pss_nil)
    (pss_cons (ps_setLc (i := 2) (own := [("one", 4)]) (g := gName 4) (by rfl) scFt.nd rfl rfl (sw_true rfl rfl rfl (by decide +kernel)) (pi_list (pv 0)) (blkOk_by (own := [("one", 4)]) (N := NFt) (sc := defScope sFault) (by decide +kernel))
      (fun _ _ _ _ _ => pg_name (i := 4) scFt.nd rfl (by first | exact Or.inl rfl | exact Or.inr rfl)) (fun _ _ _ _ _ => pts_nil)
      (fun _ _ _ _ _ => pe_callB (show CallR _ (.builtin "repr") (rReprF K) from call_reprD (by exact gA) (by exact hr.units)) (by rfl) T.repr (id (by decide +kernel : PySem.bootBuiltins "repr" = some (Value.builtin "repr"))) (pa_cons (pv 4) pa_nil)))
    (pss_cons (ps_for PassesOwn.never rfl (pi_et (by rfl) T.enumerate (pa_cons (pv 1) pa_nil)) (pg_tup rfl (pgs_cons (pg_name (i := 3) scFt.nd rfl (by first | exact Or.inl rfl | exact Or.inr rfl)) (pgs_cons (pg_name (i := 4) scFt.nd rfl (by first | exact Or.inl rfl | exact Or.inr rfl)) pgs_nil)))
      (pss_one (ps_if (PW.pt (pw_or (pt_cmpR op_notIn_seq (pe_callB (call_reprD gA hr.units) (by rfl) T.repr (by decide +kernel) (pa_cons (pv 4) pa_nil)) (pv 2) (by rfl))
        (pw_or1 (PW.pt (pw_and (pt_cmpR op_gt (pv 3) pe_int (nomark _)) (pw_and1 (pt_not (pt_cmpR (show OpR _ (compareOp .Lt) (rLtDa K) from op_ltDa (by exact hr.units)) (pe_ix (show IxR _ (rIxT K) from ix_tup) (pv 1) (pe_op op_sub (pv 3) pe_int) (fun _ _ => rfl)) (pv 4) (nomark _)))))))))
        (pss_one (ps_ret (pe_tup (pa_cons (pv 3) pa_nil)))) pss_nil)))
    (pss_one (ps_ret pe_non)))), ?_⟩
  refine ⟨_, rfl, v, .ty "tuple", _, _, _, rfl, .ty _, hd.ty, isi_tup K d, _, rfl, ?_⟩
  cases d with
  | tuple ds =>
    cases hd with
    | tup h0 hx =>
      rename_i p ys
      have ly := hx.len
      have lk := hk.len
      obtain ⟨cc, eb, g⟩ := Gd.untup gd
      refine ifF rfl ?_
      refine ⟨_, rfl, R, rfl, ⟨_, SqL.of hR⟩, fun D hD => ?_⟩
      refine lc_it (walk_list (xs := us)) (fun i H1 => Same H H1 ∧ H1 D = some (.lst (((ks.take i).map PyData.shown).map V.str))) ⟨Same.upd hD, by rw [upd_same]; rfl⟩ (fun i H1 _ ⟨s1, _⟩ => SqL.of (s1 _ _ hR)) ?_ ?_
      · rintro i x H1 H2 hi ⟨s1, g1⟩ ⟨rfl, hx1⟩
        obtain ⟨e, he, dqe⟩ := hk.get hx1
        have ge := gk e (List.mem_of_getElem? he)
        have she := ge.shown (by decide)
        refine ⟨rfl, tyes ?_⟩
        refine ⟨_, rfl, x, e, m, l, rfl, Dq.same s1 _ _ dqe, she.1, ge.dp, she.2, _, g1, small1000 ?_, fun b o hb => ?_, ?_⟩
        · rw [List.length_map, List.length_map, List.length_take]; omega
        · rw [upd_ne (ne_of_none hb hD)]; exact s1 _ _ hb
        · rw [upd_same, List.take_succ, he, List.map_append, List.map_append]; rfl
      rintro H1 ⟨s1, g1⟩
      rw [List.take_of_length_le (by omega)] at g1
      refine ⟨_, rfl, p, ys, rfl, Same.seqT s1 h0, ?_⟩
      refine for_it walk_et (fun i σ H2 => ∃ (v3 v4 : Option V), σ = [some (.ref R), some (.ref p), some (.ref D), v3, v4] ∧ Same H1 H2 ∧ (∀ j e, j + 1 = i → ds[j]? = some e → Pd e = true) ∧ firstW Pd none 0 ds = firstW Pd (match i with | 0 => none | j + 1 => ds[j]?) i (ds.drop i))
        ⟨none, none, rfl, Same.refl H1, (fun j e z => nomatch z), rfl⟩ (fun i σ H2 _ ⟨v3, v4, _, s2, _⟩ => Same.seqT (s1.trans s2) h0) ?_ ?_
      · rintro i x σ H2 H3 hi ⟨v3, v4, rfl, s2, pb, dg⟩ ⟨TT, x1, x2, rfl, hT, rfl, e1', e2'⟩
        have ex1 : x1 = .int (i : Nat) := (Option.some.inj e1').symm
        subst ex1
        obtain ⟨e, he, dqe⟩ := hx.get e2'
        have sB : Same H1 (upd H2 TT (.tup [.int (i : Nat), x2])) := s2.trans (Same.upd hT)
        have sA := s1.trans sB
        have hid : i < ds.length := by omega
        have edr : ds.drop i = e :: ds.drop (i + 1) := by rw [List.drop_eq_getElem_cons hid]; rw [(List.getElem?_eq_some_iff.mp he).2]
        have hem : e ∈ ds := List.mem_of_getElem? he
        have ge := g.at he
        have we : e.weight ≤ 100000 := by
          have := wA_at he
          have := g.wt
          omega
        have she := (ge.mono (Nat.le_refl _) we (Nat.le_refl _)).shown (by decide)
        have dpe := ge.dp
        have gT : (upd H2 TT (.tup [.int (i : Nat), x2])) TT = some (.tup [.int (i : Nat), x2]) := upd_same
        generalize upd H2 TT (.tup [.int (i : Nat), x2]) = H3 at sA sB gT ⊢
        refine ⟨TT, _, rfl, .inl (.inl gT), rfl, _, _, rfl, _, _, rfl, rfl, ?_⟩
        refine ⟨_, rfl, x2, e, m, l, rfl, Dq.same sA e x2 dqe, she.1, by omega, she.2, _, rfl, D, _, rfl, .inl (SqL.of (sB _ _ g1)), rfl, ?_, _, rfl, ?_⟩
        · rw [List.all_eq_true]
          intro z hz
          obtain ⟨s', _, rfl⟩ := List.mem_map.mp hz
          rfl
        have ei : inV (.str e.shown) ((ks.map PyData.shown).map V.str) = Pd e := by rw [inV_str]; exact kn e
        rw [ei]
        rw [edr] at dg
        simp only [firstW] at dg
        have found : ∀ p9, H3 p9 = none → firstW Pd none 0 ds = some i → Q (.ref p9) (upd H3 p9 (.tup [.int (i : Nat)])) := fun p9 h9 z => by
          refine q _ _ (sA.trans (Same.upd h9)) ?_
          have e9 : faultD Pd (.tuple ds) = .tuple [.int (i : Nat)] := by
            show (match (firstW Pd none 0 ds).map (fun p => PyData.int (p : Nat)) with | none => PyData.none | some u => .tuple [u]) = _
            rw [z]; rfl
          rw [e9]
          exact .tup (.inl (.inl upd_same)) (.cons (.int _) .nil)
        cases hp : Pd e with
        | false =>
          rw [hp, Bool.false_and, if_neg Bool.false_ne_true] at dg
          exact ifT rfl ⟨_, rfl, (by show 1 ≤ sizeLine; decide), fun p9 h9 => found p9 h9 dg⟩
        | true =>
          rw [hp, Bool.true_and] at dg
          refine ifF rfl ?_
          cases i with
          | zero =>
            refine ⟨_, rfl, _, 0, rfl, rfl, _, rfl, ifF rfl (ifF rfl ⟨_, _, rfl, sB, (fun j e' z hj => ?_), ?_⟩)⟩
            · obtain rfl : j = 0 := by omega
              rw [he] at hj; cases hj; exact hp
            · have d2 : firstW Pd none 0 ds = firstW Pd (some e) 1 (ds.drop 1) := dg
              rw [d2]
              show _ = firstW Pd ds[0]? 1 (ds.drop 1)
              rw [he]
          | succ j =>
            have hj : j < ys.length := by omega
            obtain ⟨d', hd', dq'⟩ := hx.get (List.getElem?_eq_getElem hj)
            have hpd := pb j d' rfl hd'
            obtain ⟨al1, nd1, nn1, dp1⟩ := al d' e hpd hp
            have nd2 := (al e d' hp hpd).2.1
            have d2 : firstW Pd none 0 ds = if (match ds[j]? with | none => true | some e' => PySem.W.dataLt e' e) = true then firstW Pd (some e) (j + 1 + 1) (ds.drop (j + 1 + 1)) else some (j + 1) := dg
            rw [hd'] at d2
            refine ⟨_, rfl, _, 0, rfl, rfl, _, rfl, ifT (decide_eq_true (by show (0 : Int) < ((j + 1 : Nat) : Int); omega)) ?_⟩
            refine ⟨_, rfl, _, rfl, _, _, rfl, rfl, p, ys, (j : Int), ys[j], rfl, ?_, Same.seqT sA h0, atI_nat (List.getElem?_eq_getElem hj), _, rfl, d', e, Dq.dp _ _ (Dq.same sA _ _ dq') nd1, Dq.dp _ _ (Dq.same sA _ _ dqe) nd2, al1, nn1, dp1, _, rfl, ?_⟩
            · show V.int (((j + 1 : Nat) : Int) - 1) = V.int (j : Int)
              rw [V.int.injEq]; omega
            cases hlt : PySem.W.dataLt d' e with
            | true =>
              have d3 : firstW Pd none 0 ds = firstW Pd (some e) (j + 1 + 1) (ds.drop (j + 1 + 1)) := by
                rw [d2]; exact if_pos hlt
              refine ifF rfl ⟨_, _, rfl, sB, (fun j' e' z hj' => ?_), ?_⟩
              · obtain rfl : j' = j + 1 := by omega
                rw [he] at hj'; cases hj'; exact hp
              · rw [d3]
                show _ = firstW Pd ds[j + 1]? (j + 1 + 1) (ds.drop (j + 1 + 1))
                rw [he]
            | false =>
              have d3 : firstW Pd none 0 ds = some (j + 1) := by
                rw [d2]; exact if_neg (by show ¬ PySem.W.dataLt d' e = true; rw [hlt]; exact Bool.false_ne_true)
              exact ifT rfl ⟨_, rfl, (by show 1 ≤ sizeLine; decide), fun p9 h9 => found p9 h9 d3⟩
      · rintro σ H2 ⟨v3, v4, rfl, s2, pb, dg⟩
        rw [List.drop_of_length_le (by omega)] at dg
        refine q _ _ (s1.trans s2) ?_
        have e9 : faultD Pd (.tuple ds) = .none := by
          have z : firstW Pd none 0 ds = none := by rw [dg]; rfl
          show (match (firstW Pd none 0 ds).map (fun p => PyData.int (p : Nat)) with | none => PyData.none | some u => .tuple [u]) = _
          rw [z]; rfl
        rw [e9]
        exact .non
  | _ => exact ifT rfl ⟨(by show 1 ≤ sizeLine; decide), fun p9 h9 => q _ _ (Same.upd h9) (.tup (.inl (.inl upd_same)) (.cons .non .nil))⟩
end
end Ms
namespace Ms
open PySem PySem.Spec PyProof.Rows L2
/-! ### what the draws leave as it was, told apart -/
theorem Fr.relock {m l l' D : Addr} {H H' : Hp} {o : HO} (f : Fr m l l' H H') (h : H D = none) : Fr m l l' H (upd H' D o) :=
  ⟨fun b o e h1 h2 => by rw [upd_ne (ne_of_none e h)]; exact f.keep b o e h1 h2, f.new, fun b h => upd_dom (f.dom b h)⟩
theorem Mch.nm {m l : Addr} {n : Nat} {H : Hp} {p : Addr} {o : HO} (M : Mch H m l n) (h : H p = some o) (ho : ∀ kv, o ≠ .dK kv) : p ≠ m := by
  obtain ⟨c, cs, ls, z, h1, _⟩ := M.ex
  exact ne_of h h1 (fun e => ho _ e)
theorem Mch.nl {m l : Addr} {n : Nat} {H : Hp} {p : Addr} {o : HO} (M : Mch H m l n) (h : H p = some o) (ho : ∀ xs, o ≠ .lst xs) : p ≠ l := by
  obtain ⟨c, cs, ls, z, _, _, h1, _⟩ := M.ex
  exact ne_of h h1 (fun e => ho _ e)
end Ms
namespace Ms
open PySem PySem.Spec PyProof.Rows L2 RZ
/-! ### _law_picked -/
theorem Prq.sub {K : PySem.W.Frag} {H : Hp} {us : List V} {ps : List (List Int × List Int)} (p : Prq K H us ps) : ∀ {sub : List V}, sub.Sublist us → ∃ qs, qs.Sublist ps ∧ Prq K H sub qs := by
  induction p with
  | nil => intro sub h; cases h; exact ⟨[], .slnil, .nil⟩
  | cons h1 h2 h3 _ ih =>
    intro sub h
    cases h with
    | cons _ h =>
      obtain ⟨qs, a, b⟩ := ih h
      exact ⟨qs, a.cons _, b⟩
    | cons_cons _ h =>
      obtain ⟨qs, a, b⟩ := ih h
      exact ⟨_ :: qs, a.cons_cons _, .cons h1 h2 h3 b⟩
theorem Rwq.sub {K : PySem.W.Frag} {H : Hp} {us : List V} {rs : List (List Int)} (p : Rwq K H us rs) : ∀ {sub : List V}, sub.Sublist us → ∃ qs, qs.Sublist rs ∧ Rwq K H sub qs := by
  induction p with
  | nil => intro sub h; cases h; exact ⟨[], .slnil, .nil⟩
  | cons h1 _ ih =>
    intro sub h
    cases h with
    | cons _ h =>
      obtain ⟨qs, a, b⟩ := ih h
      exact ⟨qs, a.cons _, b⟩
    | cons_cons _ h =>
      obtain ⟨qs, a, b⟩ := ih h
      exact ⟨_ :: qs, a.cons_cons _, .cons h1 b⟩
section
variable {P : Program} {w : World} {K : PySem.W.Frag} {mg : Str → Option Value} {base : Heap} {fN fM : Addr}
abbrev NPk : List Str := ["m", "some", "part", "one"]
theorem scPk : FnScope NPk ["m", "some", "part"] (defScope sPicked) := ⟨rfl, rfl, rfl, by decide +kernel, rfl, by decide +kernel, by decide +kernel⟩
def spPicked : Sp := fun vs H Q _ => ∃ (m l L : Addr) (n : Nat) (us : List V) (k : Int), vs = [.ref m, .ref L, .int k] ∧ Mch H m l n ∧ n < 600000 ∧ H L = some (.lst us) ∧ L ≠ m ∧ L ≠ l ∧ us.length ≤ 300 ∧
  ∀ (p : Addr) (sub : List V) (l' : Addr) (H' : Hp), H' p = some (.tup sub) → sub.Sublist us → Mch H' m l' (n + us.length) → Fr m l l' H H' → Q (.ref p) H'
theorem ok_picked {f : Addr} {fd fdN : FuncData} (F : Fun K "_law_picked" "_law_picked" sPicked f fd) (T : TxtS mg fN fM) (FN : Fun K "_law_next" "_law_next" sNext fN fdN) (bN : Binds K fdN ["m", "many"] []) : FnOk P w K mg base CX0 2 f fd ["m", "some", "part"] spPicked := by
  have GN : FnOk P w K mg base CX0 1 fN fdN ["m", "many"] spNext := ok_next FN T.toTxt
  refine F.ok scPk (fun vs H Q E h => ?_) (fun cdv A outer s H vs Q E hr h => ?_)
  · obtain ⟨m, l, L, n, us, k, rfl, _⟩ := h
    rfl
  obtain ⟨m, l, L, n, us, k, rfl, M, hn, hL, aM, aL, h3, q⟩ := h
  refine ⟨_, pss_one (ps_ret (pe_callTy call_tuple_of (by rfl) T.tuple (by decide +kernel) (pa_cons (pe_lc (own := [("one", 3)]) (g := gName 3) (by rfl) scPk.nd (pi_list (pv 1)) (blkOk_by (own := [("one", 3)]) (N := NPk) (sc := defScope sPicked) (by decide +kernel))
    (fun _ _ _ _ _ => pg_name (i := 3) scPk.nd rfl (by first | exact Or.inl rfl | exact Or.inr rfl)) (fun _ _ _ _ _ => pts_one (pt_cmpR op_lt (pe_lock (pe_call GN hr (by rfl) T.next FN.kp bN .nil pass0 (pa_cons (pv 0) (pa_cons pe_int pa_nil)))) (pv 2) (nomark _))) (fun _ _ _ _ _ => pv 3)) pa_nil))), ?_⟩
  refine ⟨_, rfl, L, rfl, ⟨_, SqL.of hL⟩, fun D hD => ?_⟩
  have nLD : L ≠ D := ne_of_none hL hD
  obtain ⟨od0, e0⟩ : ∃ od0 : Obj, od0 = { cls := .none, data := .plain } := ⟨_, rfl⟩
  refine lc_it (walk_list (xs := us)) (fun i H3 => ∃ (Hb : Hp) (od : Obj) (u ws : List V) (l2 : Addr), H3 = upd Hb D (.lst ws) ∧ Hb D = some (.frz od (.lst u)) ∧ Mch Hb m l2 (n + i) ∧ Fr m l l2 H Hb ∧ ws.Sublist (us.take i))
    ⟨upd H D (.frz od0 (.lst [])), od0, [], [], l, by rw [upd_upd], upd_same, M.same (Same.upd hD), (Fr.refl M).junk hD, by rw [List.take_zero]; exact .slnil⟩ (fun i H3 _ ⟨Hb, od, u, ws, l2, e3, g, M3, f3, _⟩ => SqL.of (by rw [e3, upd_ne nLD]; exact f3.keep _ _ hL aM aL)) ?_ ?_
  · rintro i x H3 H4 hi ⟨Hb, od, u, ws, l2, rfl, g, M3, f3, wsub⟩ ⟨rfl, hx⟩
    have tk : us.take (i + 1) = us.take i ++ [x] := by
      have hx' : us[i]? = some x := hx
      rw [List.take_succ, hx']; rfl
    have lw : ws.length ≤ 300 := by
      have h1 := wsub.length_le
      rw [List.length_take] at h1
      omega
    refine ⟨rfl, D, .lst ws, upd_same, trivial, fun od' => ?_⟩
    rw [upd_upd]
    have M4 : Mch (upd Hb D (.frz od' (.lst ws))) m l2 (n + i) := Mch.unlock g M3
    have f4 := f3.relock (o := .frz od' (.lst ws)) hD
    refine ⟨_, rfl, m, l2, n + i, 4, rfl, M4, by omega, by decide, by decide, fun r l5 H5 r0 r4 M5 f5 => ?_⟩
    have g5 : H5 D = some (.frz od' (.lst ws)) := f5.keep _ _ upd_same (M4.nm upd_same (fun _ z => nomatch z)) (M4.nl upd_same (fun _ z => nomatch z))
    refine ⟨g5, _, rfl, _, _, rfl, rfl, _, rfl, ite_b (fun _ => ?_) (fun _ => ?_)⟩
    · refine ⟨_, rfl, ws, upd_same, small1000 (by omega), H5, od', _, ws ++ [x], l5, by rw [upd_upd], g5, M5, f4.trans f5, ?_⟩
      rw [tk]
      exact wsub.append (List.Sublist.refl _)
    · refine ⟨H5, od', _, ws, l5, rfl, g5, M5, f4.trans f5, ?_⟩
      rw [tk]
      exact wsub.trans (List.sublist_append_left _ _)
  · rintro H3 ⟨Hb, od, u, ws, l2, rfl, g, M3, f3, wsub⟩
    rw [List.take_of_length_le (Nat.le_refl _)] at wsub
    refine ⟨D, _, rfl, .inl ⟨SqL.of upd_same, fun p hp => ?_⟩⟩
    have sp : Same (upd Hb D (.lst ws)) (upd (upd Hb D (.lst ws)) p (.tup ws)) := Same.upd hp
    exact q p ws l2 _ upd_same wsub ((Mch.unlock g M3).same sp) ((f3.relock hD).junk hp)
end
end Ms
namespace Ms
open PySem PySem.Spec PyProof.Rows L2
/-! ### sets of pairs of tuples of ints: what a search may show, hashes by value -/
/-- at b: the pair q of tuples of ints -/
def IsPr (P : Program) (w : World) (h : Heap) (q : List Int × List Int) (b : Addr) : Prop :=
  ∃ (o : Obj) (items : Array Value) (n : Nat) (b1 b2 : Addr), h.get? b = some o ∧ o.cls = .type "tuple" ∧ o.data = .seq items n ∧ items.toList = [.ref b1, .ref b2] ∧ IsT P w h q.1 b1 ∧ IsT P w h q.2 b2
section
variable {P : Program} {w : World} {A : Around} {E : Value → Shared → Prop} {s : Shared} {b : Addr} {q : List Int × List Int} {k : List Int}
theorem IsPr.typeIs (hk : IsPr P w s.heap q b) : s.TypeIs (.ref b) "tuple" := by
  obtain ⟨o, items, n, b1, b2, ho, hc, _⟩ := hk
  exact ⟨o, ho, hc⟩
/-- all that a tuple holds is of no class statement: so is the tuple -/
theorem ofA_items {Q : Bool → Shared → Prop} {o : Obj} {items : Array Value} {c : Nat} (n : Nat) (ty : s.TypeIs (.ref b) "tuple") (ho : s.heap.get? b = some o) (hd : o.data = .seq items c)
    (all : ∀ v ∈ items.toList, ∀ R : Bool → Shared → Prop, R false s → wpAny (model P w) A (ofAClassStatement n v) R E s) (h : Q false s) : wpAny (model P w) A (ofAClassStatement (n + 1) (.ref b)) Q E s := by
  rw [ofAClassStatement]
  refine wpAny_bind (wpAny_typeOf ty ?_)
  have yes : (("tuple" : String) == "tuple") = true := rfl
  simp only [yes, if_true, Bool.not_true, Bool.false_eq_true, if_false, pure_bind]
  refine wpAny_bind (wpAny_seqItems ho hd (wpAny_bind ?_))
  rw [← Array.forIn_toList]
  refine wpAny_forIn_list _ (fun left out now => out.1 = none ∧ now = s ∧ ∀ v ∈ left, v ∈ items.toList) _ (fun v left out now ⟨h1, h2, h3⟩ => ?_) (fun out now ⟨h1, h2, _⟩ => ?_) _ _ ⟨rfl, rfl, fun v hv => hv⟩
  · subst h2
    refine wpAny_bind (all v (h3 v List.mem_cons_self) _ ?_)
    simp only [Bool.false_eq_true, if_false]
    exact wpAny_pure ⟨rfl, rfl, fun u hu => h3 u (List.mem_cons_of_mem _ hu)⟩
  · obtain ⟨o1, o2⟩ := out
    cases h1
    subst h2
    exact wpAny_pure h
theorem ofA_flat {Q : Bool → Shared → Prop} (n : Nat) (hk : IsT P w s.heap k b) (h : Q false s) : wpAny (model P w) A (ofAClassStatement (n + 1) (.ref b)) Q E s := by
  have ty := hk.typeIs
  obtain ⟨o, items, c, ho, _, hd, hi⟩ := hk
  refine ofA_items n ty ho hd (fun v hv R hR => ?_) h
  obtain ⟨i, t, rfl⟩ := items_int hi v hv
  rw [ofAClass_int]
  exact wpAny_pure hR
theorem ofA_pr {Q : Bool → Shared → Prop} (hk : IsPr P w s.heap q b) (h : Q false s) : wpAny (model P w) A (ofAClassStatement 8 (.ref b)) Q E s := by
  have ty := hk.typeIs
  obtain ⟨o, items, n, b1, b2, ho, _, hd, hi, t1, t2⟩ := hk
  refine ofA_items 7 ty ho hd (fun v hv R hR => ?_) h
  rw [hi] at hv
  rcases List.mem_cons.mp hv with rfl | hv
  · exact ofA_flat 6 t1 hR
  · rw [List.mem_singleton.mp hv]
    exact ofA_flat 6 t2 hR
/-- all that a tuple holds hashes by value: so does the tuple -/
theorem hashBy_items {Q : Bool → Shared → Prop} {o : Obj} {items : Array Value} {c : Nat} (n : Nat) (ty : s.TypeIs (.ref b) "tuple") (ho : s.heap.get? b = some o) (hd : o.data = .seq items c)
    (all : ∀ v ∈ items.toList, ∀ R : Bool → Shared → Prop, R true s → wpAny (model P w) A (hashByValue n v) R E s) (h : Q true s) : wpAny (model P w) A (hashByValue (n + 1) (.ref b)) Q E s := by
  rw [hashByValue]
  refine wpAny_bind (wpAny_specialOf ty F.slot_tuple_hash.lookup (wpAny_bind (wpAny_seqItems ho hd ?_)))
  show wpAny (model P w) A (forIn items _ _ >>= _) Q E s
  refine wpAny_bind ?_
  rw [← Array.forIn_toList]
  refine wpAny_forIn_list _ (fun left out now => out.1 = none ∧ now = s ∧ ∀ v ∈ left, v ∈ items.toList) _ (fun v left out now ⟨h1, h2, h3⟩ => ?_) (fun out now ⟨h1, h2, _⟩ => ?_) _ _ ⟨rfl, rfl, fun v hv => hv⟩
  · subst h2
    refine wpAny_bind (all v (h3 v List.mem_cons_self) _ ?_)
    simp only [Bool.not_true, Bool.false_eq_true, if_false]
    exact wpAny_pure ⟨rfl, rfl, fun u hu => h3 u (List.mem_cons_of_mem _ hu)⟩
  · obtain ⟨o1, o2⟩ := out
    cases h1
    subst h2
    exact wpAny_pure h
theorem hashBy_flat {Q : Bool → Shared → Prop} (n : Nat) (hk : IsT P w s.heap k b) (h : Q true s) : wpAny (model P w) A (hashByValue (n + 1) (.ref b)) Q E s := by
  have ty := hk.typeIs
  obtain ⟨o, items, c, ho, _, hd, hi⟩ := hk
  refine hashBy_items n ty ho hd (fun v hv R hR => ?_) h
  obtain ⟨i, t, rfl⟩ := items_int hi v hv
  rw [hashBy_int]
  exact wpAny_pure hR
theorem hashBy_pr {Q : Bool → Shared → Prop} (hk : IsPr P w s.heap q b) (h : Q true s) : wpAny (model P w) A (hashByValue 8 (.ref b)) Q E s := by
  have ty := hk.typeIs
  obtain ⟨o, items, n, b1, b2, ho, _, hd, hi, t1, t2⟩ := hk
  refine hashBy_items 7 ty ho hd (fun v hv R hR => ?_) h
  rw [hi] at hv
  rcases List.mem_cons.mp hv with rfl | hv
  · exact hashBy_flat 6 t1 hR
  · rw [List.mem_singleton.mp hv]
    exact hashBy_flat 6 t2 hR
end
end Ms
namespace Ms
open PySem PySem.Spec PyProof.Rows L2
/-! ### pairs of tuples of ints as nested keys: hash, ==, quiet; a search among them shows nothing -/
def rowKey (r : List Int) : NestedKey := .tup (r.map NestedKey.num)
def prKey (q : List Int × List Int) : NestedKey := .tup [rowKey q.1, rowKey q.2]
def phash (w : World) (q : List Int × List Int) : Int := (prKey q).hash w
theorem num_inj : ∀ {r s : List Int}, r.map NestedKey.num = s.map NestedKey.num → r = s
  | [], [], _ => rfl
  | [], _ :: _, h => by cases h
  | _ :: _, [], h => by cases h
  | x :: xs, y :: ys, h => by
    rw [List.map_cons, List.map_cons] at h
    injection h with h1 h2
    injection h1 with h1
    rw [h1, num_inj h2]
theorem prKey_inj {q p : List Int × List Int} (h : prKey q = prKey p) : q = p := by
  injection h with h
  injection h with h1 h2
  injection h2 with h2 _
  injection h1 with h1
  injection h2 with h2
  exact Prod.ext (num_inj h1) (num_inj h2)
theorem depth_nums : ∀ r : List Int, NestedKey.depthAll (r.map NestedKey.num) = 0
  | [] => rfl
  | x :: xs => by
    show max 0 (NestedKey.depthAll (xs.map NestedKey.num)) = 0
    rw [depth_nums xs]; rfl
theorem depth_row (r : List Int) : (rowKey r).depth = 1 := by
  show NestedKey.depthAll (r.map NestedKey.num) + 1 = 1
  rw [depth_nums]
theorem depth_prK (q : List Int × List Int) : (prKey q).depth = 2 := by
  show max (rowKey q.1).depth (max (rowKey q.2).depth 0) + 1 = 2
  rw [depth_row, depth_row]; rfl
section
variable {P : Program} {w : World} {A : Around} {E : Value → Shared → Prop} {s : Shared} {b c : Addr} {q p : List Int × List Int} {k : List Int} {h : Heap}
theorem nested_nums : ∀ {k : List Int} {vs : List Value}, ItemsAre (intKind P w) k vs → NestedAll h (k.map NestedKey.num) vs := by
  intro k vs hi
  induction hi with
  | nil => exact .nil
  | @cons k0 v ks vs h1 _ ih =>
    obtain ⟨t, e⟩ := Value.isInt_shape h1
    subst e
    exact .cons (.int k0 t) ih
theorem nested_row {r : List Int} (hk : IsT P w h r b) : NestedIs h (rowKey r) (.ref b) := by
  obtain ⟨o, items, n, ho, hc, hd, hi⟩ := hk
  exact .tup ho hc hd (nested_nums hi)
theorem nested_pr (hk : IsPr P w h q b) : NestedIs h (prKey q) (.ref b) := by
  obtain ⟨o, items, n, b1, b2, ho, hc, hd, hi, t1, t2⟩ := hk
  refine .tup ho hc hd ?_
  rw [hi]
  exact .cons (nested_row t1) (.cons (nested_row t2) .nil)
theorem is_pr (hk : IsPr P w h q b) : (nestedKind P w).is h (prKey q) b := ⟨nested_pr hk, by rw [depth_prK]; decide⟩
theorem hash_pr {Q : Int → Shared → Prop} (hk : IsPr P w s.heap q b) (hu : A.units + 8 < cLine) (z : ∀ n : Nat, Q (phash w q) { s with toks := s.toks + n }) : wpAny (model P w) A (pyHash (.ref b)) Q E s :=
  (nestedKind P w).pyHash hu (is_pr hk) (z _)
theorem eq_pr {Q : Bool → Shared → Prop} (hu : A.units + 8 < cLine) (hq : IsPr P w s.heap q b) (hp : IsPr P w s.heap p c) (z : Q (decide (q = p)) s) : wpAny (model P w) A (eqBool (.ref b) (.ref c)) Q E s := by
  refine (nestedKind P w).eqBool hu (is_pr hq) (is_pr hp) ?_
  have e : decide (prKey q = prKey p) = decide (q = p) := by
    rw [Bool.eq_iff_iff, decide_eq_true_eq, decide_eq_true_eq]
    exact ⟨prKey_inj, fun z => by rw [z]⟩
  have e2 : ∀ [DecidableEq NestedKey], decide (prKey q = prKey p) = decide (q = p) := by
    intro _
    rw [Bool.eq_iff_iff, decide_eq_true_eq, decide_eq_true_eq]
    exact ⟨prKey_inj, fun z => by rw [z]⟩
  rw [e2]
  exact z
theorem quiet_pr {Q : Bool → Shared → Prop} (hk : IsPr P w s.heap q b) (z : Q true s) : wpAny (model P w) A (eqIsQuiet 8 (.ref b)) Q E s := (nestedKind P w).quiet (is_pr hk) z
/-- a search among such pairs shows nothing -/
theorem seen_pr {Q : Bool → Shared → Prop} (hk : IsPr P w s.heap q b) {ys : List Value} (hy : ∀ y ∈ ys, ∃ p c, y = Value.ref c ∧ IsPr P w s.heap p c) (z : Q false s) : wpAny (model P w) A (searchCouldBeSeen (.ref b) ys) Q E s := by
  unfold searchCouldBeSeen
  refine wpAny_bind (wpAny_forIn_list _ (fun left out now => out.1 = none ∧ now = s ∧ ∀ y ∈ left, y ∈ ys) _ (fun v left out now ⟨h1, h2, h3⟩ => ?_) (fun out now ⟨h1, h2, _⟩ => ?_) _ _ ⟨rfl, rfl, fun v hv => hv⟩)
  · subst h2
    obtain ⟨p, c, rfl, hc⟩ := hy v (h3 v List.mem_cons_self)
    have go : ∀ u ∈ left, u ∈ ys := fun u hu => h3 u (List.mem_cons_of_mem _ hu)
    dsimp only
    cases hv : (b == c || (carriedByValue (.ref b) && carriedByValue (.ref c))) with
    | true =>
      simp only [if_true]
      exact wpAny_pure ⟨rfl, rfl, go⟩
    | false =>
      simp only [Bool.false_eq_true, if_false]
      refine wpAny_bind (quiet_pr hk ?_)
      simp only [Bool.not_true, Bool.false_eq_true, if_false]
      refine wpAny_bind (quiet_pr hc ?_)
      simp only [Bool.not_true, Bool.false_eq_true, if_false]
      refine wpAny_bind (ofA_pr hk ?_)
      simp only [Bool.false_eq_true, if_false]
      refine wpAny_bind (ofA_pr hc ?_)
      simp only [Bool.false_eq_true, if_false]
      exact wpAny_pure ⟨rfl, rfl, go⟩
  · obtain ⟨o1, o2⟩ := out
    cases h1
    subst h2
    exact wpAny_pure z
end
end Ms
namespace Ms
open PySem PySem.Spec PyProof.Rows L2
/-! ### a small set of pairs of tuples of ints: the search -/
structure SetPR (P : Program) (w : World) (h : Heap) (a : Addr) (L : List (Addr × (List Int × List Int))) (es : Array (Int × Value)) (ep : Nat) (t : SetTable) : Prop where
  ob : ∃ o, h.get? a = some o ∧ o.ExactSet ∧ o.data = .set es ep t
  rows : es.toList = L.map fun p => (phash w p.2, Value.ref p.1)
  tab : TabOk t (L.map fun p => phash w p.2)
  nd : (L.map (·.2)).Nodup
  prs : ∀ p ∈ L, IsPr P w h p.2 p.1
  plain : t.plain = true
  led : w.params.followText "set-order" = true ∨ t.led = true
  m7 : t.mask = 7
  few : L.length ≤ 4
section
variable {P : Program} {w : World} {A : Around} {E : Value → Shared → Prop} {s : Shared} {a x : Addr} {q : List Int × List Int} {L : List (Addr × (List Int × List Int))} {es : Array (Int × Value)} {ep : Nat} {t : SetTable}
theorem SetPR.sz (R : SetPR P w s.heap a L es ep t) : es.size = L.length := by
  have e := congrArg List.length R.rows
  rwa [List.length_map, Array.length_toList] at e
theorem SetPR.tsz (R : SetPR P w s.heap a L es ep t) : t.place.size = L.length := by
  have e := R.tab.sz
  rwa [List.length_map] at e
theorem SetPR.fits (R : SetPR P w s.heap a L es ep t) : t.fits es.size = true := by
  have e1 := R.tsz
  have e2 := R.sz
  have e3 := R.few
  have e4 := R.m7
  unfold SetTable.fits SetTable.fill
  rw [R.tab.dm, Bool.and_eq_true, beq_iff_eq, decide_eq_true_eq]
  exact ⟨by rw [e1, e2], by show t.place.size + 0 ≤ t.mask; omega⟩
theorem SetPR.at_ (R : SetPR P w s.heap a L es ep t) {i : Nat} {p : Addr × (List Int × List Int)} (e : L[i]? = some p) : es[i]? = some (phash w p.2, Value.ref p.1) := by
  rw [← Array.getElem?_toList, R.rows, List.getElem?_map, e]
  rfl
theorem SetPR.notGone (R : SetPR P w s.heap a L es ep t) : ¬ t.gaveWay = true := by
  have o : t.mask % 2 = 1 := mask_odd R.tab.mok
  unfold SetTable.gaveWay
  rw [o]
  decide
end
end Ms
namespace Ms
open PySem PySem.Spec PyProof.Rows L2
/-! ### a small set of pairs of tuples of ints: what the search finds -/
section
variable {P : Program} {w : World} {A : Around} {E : Value → Shared → Prop} {s : Shared} {a x : Addr} {q : List Int × List Int} {L : List (Addr × (List Int × List Int))} {es : Array (Int × Value)} {ep : Nat} {t : SetTable}
theorem look_from (HO : ∀ (i : Nat) p, L[i]? = some p → hashOf es i = phash w p.2) (R : SetPR P w s.heap a L es ep t) (hx : IsPr P w s.heap q x) (hu : A.units + 8 < cLine) {N : Nat} (hN : N < 10 * SetTable.turns t.mask)
    (out : (prb t.mask (phash w q) N).j ∉ t.place.toList) (ins : ∀ c, c < N → (prb t.mask (phash w q) c).j ∈ t.place.toList) {Q : SetFound → Shared → Prop}
    (yes : q ∈ L.map (·.2) → Q (.there none) s) (no : q ∉ L.map (·.2) → Q (.free (prb t.mask (phash w q) N).j false) s) :
    ∀ (f c : Nat) (stand : Option SetTable.Probe), stand.getD (t.probeStart (phash w q)) = prb t.mask (phash w q) c → c ≤ N → N - c < f →
      (∀ (i : Nat) p, L[i]? = some p → p.2 = q → ∃ d, c ≤ d ∧ d < N ∧ t.place.toList[i]? = some (prb t.mask (phash w q) d).j) →
      wpAny (model P w) A (setSearchFrom a (.ref x) (phash w q) true f stand) Q E s
  | 0, c, stand, _, _, lf, _ => absurd lf (Nat.not_lt_zero _)
  | f + 1, c, stand, st, cN, lf, far => by
    obtain ⟨o, oa, oe, od⟩ := R.ob
    rw [setSearchFrom_succ]
    refine wpAny_bind (wpAny_setState_of oa od R.fits ?_)
    simp only
    refine wp_if_neg R.notGone ?_
    have S := go_spec t R.tab.ris R.tab.dm (hashOf es) (phash w q) (10 * SetTable.turns t.mask) (N - c) (prb t.mask (phash w q) c) (prb_dummy _ _ _) (by omega)
      (fun d hd => by rw [prb_add]; exact ins (c + d) (by omega)) (by rw [prb_add, show c + (N - c) = N by omega]; exact out)
    have same : t.probe (fun i => (es[i]?.map (·.1)).getD 0) (phash w q) (stand.getD (t.probeStart (phash w q))) = SetTable.probe.go t (hashOf es) (phash w q) (10 * SetTable.turns t.mask) (prb t.mask (phash w q) c) := by rw [st]; rfl
    rcases S with ⟨d, i, dN, hi, hh, hno, hp⟩ | ⟨hno, hp⟩
    · -- one of the same hash
      rw [same, hp]
      simp only
      rw [prb_add] at hi
      have il : i < L.length := by
        have e1 : i < t.place.toList.length := (List.getElem?_eq_some_iff.mp hi).1
        have e2 := R.tsz
        rw [Array.length_toList] at e1
        omega
      have ip : L[i]? = some L[i] := List.getElem?_eq_getElem il
      obtain ⟨p, ep'⟩ : ∃ p, p = L[i] := ⟨_, rfl⟩
      rw [← ep'] at ip
      have pm : p ∈ L := List.mem_of_getElem? ip
      have rest : wpAny (model P w) A (searchRest a (.ref x) (phash w q) true f es t (nth t.mask (prb t.mask (phash w q) c) d).j i (nth t.mask (prb t.mask (phash w q) c) (d + 1))) Q E s := by
        rw [prb_add, prb_add]
        unfold searchRest
        rw [R.at_ ip]
        simp only
        refine wpAny_bind (wpAny_holding (eq_pr hu (R.prs p pm) hx ?_))
        refine wpAny_bind (wpAny_setState_of oa od R.fits ?_)
        simp only
        by_cases pq : p.2 = q
        · refine wp_if_pos (by simp [pq]) (wpAny_pure (yes (List.mem_map.mpr ⟨p, pm, pq⟩)))
        · refine wp_if_neg (by simp [pq]) ?_
          rw [sameMem]
          have live : t.slot (prb t.mask (phash w q) (c + d)).j = .live i := slot_live R.tab.ris hi
          simp only [if_true, live, R.at_ ip]
          refine wpAny_bind (wpAny_isSame_ref_self (wpAny_bind (wpAny_pure ?_)))
          simp only [if_true]
          refine wp_if_neg (by simp [pq]) ?_
          refine look_from HO R hx hu hN out ins yes no f (c + (d + 1)) _ rfl (by omega) (by omega) fun j r rj rq => ?_
          obtain ⟨z, z1, z2, z3⟩ := far j r rj rq
          refine ⟨z, ?_, z2, z3⟩
          rcases Nat.lt_trichotomy z (c + d) with lt | eq | gt
          · exact absurd ((HO _ _ rj).trans (congrArg (phash w) rq)) (hno (z - c) j (by omega) (by rw [prb_add, show c + (z - c) = z by omega]; exact z3))
          · rw [eq] at z3
            have l2 := slot_live R.tab.ris z3
            rw [live] at l2
            injection l2 with l2
            rw [← l2, ip] at rj
            cases rj
            exact absurd rq pq
          · omega
      by_cases tl : t.led = true
      · exact wp_if_neg (by simp [tl]) rest
      · refine wp_if_pos (by simp [tl]) (wpAny_bind (seen_pr hx (fun y hy => ?_) ?_))
        · obtain ⟨e, he, rfl⟩ := List.mem_map.mp hy
          have h1 : e ∈ es ∧ e.1 = phash w q := by simpa using he
          have h2 : e ∈ es.toList := by simpa using h1.1
          rw [R.rows] at h2
          obtain ⟨r, rm, rfl⟩ := List.mem_map.mp h2
          exact ⟨r.2, r.1, rfl, R.prs r rm⟩
        · exact wp_if_neg (by decide) rest
    · -- a free place
      rw [same, hp, prb_add, show c + (N - c) = N by omega]
      refine wpAny_pure (no fun hm => ?_)
      obtain ⟨r, rm, rq⟩ := List.mem_map.mp hm
      obtain ⟨i, il, ri⟩ := List.getElem_of_mem rm
      have rj : L[i]? = some r := by rw [List.getElem?_eq_getElem il, ri]
      obtain ⟨z, z1, z2, z3⟩ := far i r rj rq
      exact hno (z - c) i (by omega) (by rw [prb_add, show c + (z - c) = z by omega]; exact z3) ((HO _ _ rj).trans (congrArg (phash w) rq))
end
end Ms
namespace Ms
open PySem PySem.Spec PyProof.Rows L2
/-! ### a small set of pairs of tuples of ints: the search as adding asks for it -/
section
variable {P : Program} {w : World} {A : Around} {E : Value → Shared → Prop} {s : Shared} {a x : Addr} {q : List Int × List Int} {L : List (Addr × (List Int × List Int))} {es : Array (Int × Value)} {ep : Nat} {t : SetTable}
theorem SetPR.hash_at (R : SetPR P w s.heap a L es ep t) (i : Nat) (p : Addr × (List Int × List Int)) (e : L[i]? = some p) : hashOf es i = phash w p.2 := hashOf_at (R.at_ e)
theorem look (R : SetPR P w s.heap a L es ep t) (hx : IsPr P w s.heap q x) (hu : A.units + 8 < cLine) {Q : SetFound → Shared → Prop} (yes : q ∈ L.map (·.2) → Q (.there none) s)
    (no : ∀ N, q ∉ L.map (·.2) → way t.mask (phash w q) N ∉ t.place.toList → (∀ c, c < N → way t.mask (phash w q) c ∈ t.place.toList) → Q (.free (way t.mask (phash w q) N) false) s) :
    wpAny (model P w) A (setSearch a (.ref x) (phash w q) true) Q E s := by
  have few := R.few
  have m7 := R.m7
  obtain ⟨N, nf, out, ins⟩ := R.tab.first (by rw [List.length_map]; omega) (phash w q)
  have big : N < 100000 := by
    unfold SetTable.turns at nf
    omega
  unfold setSearch
  refine look_from R.hash_at R hx hu nf out ins yes (fun z => no N z out ins) 100000 0 none rfl (Nat.zero_le _) (by omega) fun i p ip pq => ?_
  have il : i < t.place.toList.length := by
    have e1 : i < L.length := (List.getElem?_eq_some_iff.mp ip).1
    have e2 := R.tsz
    rw [Array.length_toList]
    omega
  obtain ⟨c, hc, e⟩ := R.tab.before out (show (L.map fun p => phash w p.2)[i]? = some (phash w q) by rw [List.getElem?_map, ip, ← pq, Option.map_some]) (List.getElem?_eq_getElem il)
  exact ⟨c, Nat.zero_le _, hc, by rw [List.getElem?_eq_getElem il]; exact congrArg some e.symm⟩
end
end Ms
namespace Ms
open PySem PySem.Spec PyProof.Rows L2
/-! ### a small set of pairs of tuples of ints: one is added -/
section
variable {P : Program} {w : World} {A : Around} {E : Value → Shared → Prop} {s : Shared} {a x : Addr} {q : List Int × List Int} {L : List (Addr × (List Int × List Int))} {es : Array (Int × Value)} {ep : Nat} {t : SetTable}
theorem isPr_but {h h' : Heap} {b : Addr} {o : Obj} (hb : IsPr P w h q b) (oa : h.get? a = some o) (od : o.data = .set es ep t) (sb : Heap.SameBut a h h') : IsPr P w h' q b := by
  obtain ⟨o', items, n, b1, b2, e1, e2, e3, e4, t1, t2⟩ := hb
  have ne : b ≠ a := by
    rintro rfl
    rw [oa] at e1
    cases e1
    rw [od] at e3
    cases e3
  exact ⟨o', items, n, b1, b2, (sb.2 b ne).trans e1, e2, e3, e4, isT_same t1 oa od sb, isT_same t2 oa od sb⟩
theorem add_pr (R : SetPR P w s.heap a L es ep t) (hx : IsPr P w s.heap q x) (hu : A.units + 8 < cLine) (few : L.length ≤ 3) {Q : Bool → Shared → Prop}
    (z : ∀ b h' L' es' ep' t', Heap.SameBut a s.heap h' → SetPR P w h' a L' es' ep' t' → (q ∈ L.map (·.2) → L' = L) → (q ∉ L.map (·.2) → L'.Perm ((x, q) :: L)) → Q b { s with heap := h' }) :
    wpAny (model P w) A (setAddHashed a (.ref x) (phash w q)) Q E s := by
  obtain ⟨o, oa, oe, od⟩ := R.ob
  have esz := R.sz
  unfold setAddHashed
  refine wpAny_holding ?_
  rw [show (100000 : Nat) = 99999 + 1 from rfl, setAddHashedIn_succ]
  refine wpAny_bind (wpAny_setState_of oa od R.fits ?_)
  simp only
  refine wp_if_neg (by simp [byScan, Value.scannable]) ?_
  refine wpAny_bind (look R hx hu (fun there => ?_) fun N gone out ins => ?_)
  · simp only
    exact wpAny_pure (z false s.heap L es ep t (Heap.SameBut.refl a s.heap) R (fun _ => rfl) fun y => absurd there y)
  · simp only
    refine wpAny_bind (wpAny_setState_of oa od R.fits ?_)
    simp only
    obtain ⟨p1, p2, p3, p4, p5, p6, p7, p8, p9⟩ := R.tab.put out ins
    obtain ⟨pt, ept⟩ : ∃ pt, pt = t.put (way t.mask (phash w q) N) := ⟨_, rfl⟩
    rw [← ept] at p1 p3 p4 p5 p6 p7 p8 p9 ⊢
    obtain ⟨t1, n⟩ := pt
    simp only at p1 p3 p4 p5 p6 p7 p8 p9 ⊢
    have pl : t1.plain = true := p6.trans R.plain
    refine wp_if_pos pl (wpAny_bind (hashBy_pr hx ?_))
    simp only [if_true]
    rw [← p1] at p2 p3
    rw [List.length_map] at p2 p9
    have perm := put_perm L n (x, q)
    have lth : (L.take n ++ (x, q) :: L.drop n).length = L.length + 1 := perm.length_eq
    have rows : (SetTable.insertAt es n (phash w q, Value.ref x)).toList = (L.take n ++ (x, q) :: L.drop n).map fun p => (phash w p.2, Value.ref p.1) := by
      rw [SetTable.toList_insertAt, R.rows, List.map_append, List.map_cons, List.map_take, List.map_drop]
    have tab : TabOk t1 ((L.take n ++ (x, q) :: L.drop n).map fun p => phash w p.2) := by
      rw [List.map_append, List.map_cons, List.map_take, List.map_drop]
      exact p3
    have nd : ((L.take n ++ (x, q) :: L.drop n).map (·.2)).Nodup := (perm.map (·.2)).nodup_iff.mpr (List.nodup_cons.mpr ⟨gone, R.nd⟩)
    have isz : (SetTable.insertAt es n (phash w q, Value.ref x)).size = L.length + 1 := by
      have e := congrArg List.length rows
      rwa [List.length_map, Array.length_toList, lth] at e
    refine wpAny_bind (wpAny_storeSet_of oa od ?_ (by rw [isz, sizeLine_eq]; omega))
    have full : t1.tooFull = false := by
      have m7 := R.m7
      unfold SetTable.tooFull
      rw [p9, p4, m7]
      exact decide_eq_false (by omega)
    simp only [full, Bool.and_false, Bool.false_eq_true, if_false]
    have sb : Heap.SameBut a s.heap (s.heap.update a (Obj.putSet (SetTable.insertAt es n (phash w q, Value.ref x)) t1)) := Heap.SameBut.update ..
    refine wpAny_pure (z true _ (L.take n ++ (x, q) :: L.drop n) (SetTable.insertAt es n (phash w q, Value.ref x)) (ep + 1) t1 sb
      ⟨⟨_, store_at oa od, ⟨oe.1, oe.2.1, oe.2.2⟩, rfl⟩, rows, tab, nd, fun p hp => ?_, pl, by rw [p5]; exact R.led, p4.trans R.m7, by rw [lth]; omega⟩ (fun y => absurd y gone) fun _ => perm)
    rcases List.mem_cons.mp (perm.mem_iff.mp hp) with rfl | hp
    · exact isPr_but hx oa od sb
    · exact isPr_but (R.prs p hp) oa od sb
end
end Ms
namespace Ms
open PySem PySem.Spec PyProof.Rows L2
/-! ### a small set of pairs of tuples of ints: what it has got from a list -/
/-- the set L holds what the first i items are, once each -/
structure GotP (ks : List (Addr × (List Int × List Int))) (i : Nat) (L : List (Addr × (List Int × List Int))) : Prop where
  from_ : ∀ p ∈ L, p ∈ ks.take i
  all : ∀ p ∈ ks.take i, p.2 ∈ L.map (·.2)
  few : L.length ≤ i
theorem GotP.none (ks : List (Addr × (List Int × List Int))) : GotP ks 0 [] := ⟨(fun p h => nomatch h), (fun p h => by rw [List.take_zero] at h; cases h), Nat.le_refl _⟩
theorem take_more {α : Type} {l : List α} {i : Nat} {x : α} (h : l[i]? = some x) : l.take (i + 1) = l.take i ++ [x] := by
  rw [List.take_succ, h]
  rfl
theorem GotP.again {ks L : List (Addr × (List Int × List Int))} {i : Nat} {x : Addr × (List Int × List Int)} (g : GotP ks i L) (h : ks[i]? = some x) (hm : x.2 ∈ L.map (·.2)) : GotP ks (i + 1) L := by
  refine ⟨fun p hp => ?_, fun p hp => ?_, Nat.le_succ_of_le g.few⟩
  · rw [take_more h]
    exact List.mem_append_left _ (g.from_ p hp)
  · rw [take_more h] at hp
    rcases List.mem_append.mp hp with hp | hp
    · exact g.all p hp
    · rw [List.mem_singleton.mp hp]
      exact hm
theorem GotP.fresh {ks L L' : List (Addr × (List Int × List Int))} {i : Nat} {x : Addr × (List Int × List Int)} (g : GotP ks i L) (h : ks[i]? = some x) (pm : L'.Perm (x :: L)) : GotP ks (i + 1) L' := by
  refine ⟨fun p hp => ?_, fun p hp => ?_, ?_⟩
  · rw [take_more h]
    rcases List.mem_cons.mp (pm.mem_iff.mp hp) with rfl | hp
    · exact List.mem_append_right _ (List.mem_singleton.mpr rfl)
    · exact List.mem_append_left _ (g.from_ p hp)
  · rw [take_more h] at hp
    refine (pm.map (·.2)).mem_iff.mpr ?_
    rw [List.map_cons]
    rcases List.mem_append.mp hp with hp | hp
    · exact List.mem_cons_of_mem _ (g.all p hp)
    · rw [List.mem_singleton.mp hp]
      exact List.mem_cons_self
  · rw [pm.length_eq, List.length_cons]
    exact Nat.succ_le_succ g.few
section
variable {P : Program} {w : World} {h h' : Heap} {a b : Addr} {q : List Int × List Int} {L : List (Addr × (List Int × List Int))} {es : Array (Int × Value)} {ep : Nat} {t : SetTable}
theorem isPr_keep (x : IsPr P w h q b) (hk : ∀ c o, h.get? c = some o → h'.get? c = some o) : IsPr P w h' q b := by
  obtain ⟨o, items, n, b1, b2, e1, e2, e3, e4, t1, t2⟩ := x
  exact ⟨o, items, n, b1, b2, hk _ _ e1, e2, e3, e4, isT_keep t1 hk, isT_keep t2 hk⟩
theorem SetPR.keep (R : SetPR P w h a L es ep t) (ha : ∀ o, h.get? a = some o → h'.get? a = some o) (at_ : ∀ p ∈ L, IsPr P w h' p.2 p.1) : SetPR P w h' a L es ep t := by
  obtain ⟨o, oa, r⟩ := R.ob
  exact ⟨⟨o, ha o oa, r⟩, R.rows, R.tab, R.nd, at_, R.plain, R.led, R.m7, R.few⟩
theorem setPR_new (oa : h.get? a = some { cls := .type "set", dict := none, data := .set #[] 0 (.fresh 0 0 (!w.params.followText "set-order")) }) : SetPR P w h a [] #[] 0 (.fresh 0 0 (!w.params.followText "set-order")) where
  ob := ⟨_, oa, ⟨rfl, rfl, rfl⟩, rfl⟩
  rows := rfl
  tab := ⟨.nil, rfl, rfl, .inl rfl, (fun x hx => by cases hx), fun i e j hi => by simp at hi⟩
  nd := .nil
  prs := fun p hp => nomatch hp
  plain := rfl
  led := by
    cases e : w.params.followText "set-order"
    · exact .inr rfl
    · exact .inl rfl
  m7 := rfl
  few := Nat.zero_le _
end
end Ms
namespace Ms
open PySem PySem.Spec PyProof.Rows L2
/-! ### a small set of pairs of tuples of ints: the loop that fills it -/
section
variable {P : Program} {w : World} {A : Around}
theorem fill_pr {I : Addr} {fp wr : List Addr} {G : Array GenState → Array GenState → Prop} {n : Nat} {Pv : Nat → Value → Prop} {St : Nat → Shared → Prop} {R : Result → Shared → Prop}
    (Wk : WalksS P w A.in1 I fp wr G n Pv St) (T : Addr) (notT : T ∉ fp) (ks : List (Addr × (List Int × List Int))) (nk : n = ks.length) (few : ks.length ≤ 4) (val : ∀ i v, Pv i v → ∃ p, ks[i]? = some p ∧ v = .ref p.1)
    (h0 : Heap) (at0 : ∀ p ∈ ks, IsPr P w h0 p.2 p.1) (T0 : h0.get? T = none) (wr0 : ∀ b ∈ wr, h0.get? b = none) (hu : A.in1.units + 8 < cLine) :
    ∀ (left i : Nat) (s : Shared), n - i = left → i ≤ n → St i s → (∀ b o, h0.get? b = some o → s.heap.get? b = some o) → (∃ L es ep t, SetPR P w s.heap T L es ep t ∧ GotP ks i L) →
      (∀ s' L es ep t, Moved (T :: wr) G s s' → SetPR P w s'.heap T L es ep t → GotP ks n L → (∀ b o, h0.get? b = some o → s'.heap.get? b = some o) → R (.ok (.ret .none)) s') →
      codeAny (model P w) A (.builtin "set.update.loop" ⟨[.ref T, .ref I], []⟩) R s := by
  have Tw : T ∉ wr := fun m => notT (Wk.sub _ m)
  have more : ∀ b ∈ wr, b ∈ T :: wr := fun b m => List.mem_cons_of_mem _ m
  have stays : ∀ {s s' : Shared}, Moved wr G s s' → (∀ b o, h0.get? b = some o → s.heap.get? b = some o) → ∀ b o, h0.get? b = some o → s'.heap.get? b = some o :=
    fun mv k b o e => mv.heap b o (fun m => by rw [wr0 b m] at e; cases e) (k b o e)
  intro left
  induction left with
  | zero =>
    intro i s hl hi st k ⟨L, es, ep, t, S, g⟩ end_
    obtain rfl : i = n := by omega
    refine codeAny_builtin F.entry_set_update_loop ?_
    rw [Around.under_plainId F.plain_set_update_loop _]
    show wpAny _ A.in1 (pyNext (.ref I) >>= _) _ _ s
    refine wpAny_bind (Wk.done s _ _ st fun s' mv => ?_)
    have k' := stays mv k
    show wpAny _ A.in1 (ret Value.none) _ _ s'
    exact wpAny_pure (end_ s' L es ep t (mv.mono more) (S.keep (fun o e => mv.heap T o Tw e) fun p hp => isPr_keep (at0 p (List.mem_of_mem_take (g.from_ p hp))) k') g k')
  | succ left ih =>
    intro i s hl hi st k ⟨L, es, ep, t, S, g⟩ end_
    have lt : i < n := by omega
    refine codeAny_builtin F.entry_set_update_loop ?_
    rw [Around.under_plainId F.plain_set_update_loop _]
    show wpAny _ A.in1 (pyNext (.ref I) >>= _) _ _ s
    refine wpAny_bind (Wk.item i s _ _ lt st fun v s' hv st' mv => ?_)
    obtain ⟨p, hp, rfl⟩ := val i v hv
    have k' := stays mv k
    have S' : SetPR P w s'.heap T L es ep t := S.keep (fun o e => mv.heap T o Tw e) fun r hr => isPr_keep (at0 r (List.mem_of_mem_take (g.from_ r hr))) k'
    have px : IsPr P w s'.heap p.2 p.1 := isPr_keep (at0 p (List.mem_of_getElem? hp)) k'
    show wpAny _ A.in1 (holding [Value.ref p.1] (setAdd T (.ref p.1)) >>= _) _ _ s'
    refine wpAny_bind (wpAny_holding ?_)
    unfold setAdd
    refine wpAny_holding (wpAny_bind (hash_pr px hu fun tk => ?_))
    refine add_pr (s := { s' with toks := s'.toks + tk }) S' px hu (by have := g.few; omega) fun b h' L' es' ep' t' sb S2 c1 c2 => ?_
    have g' : GotP ks (i + 1) L' := by
      by_cases c : p.2 ∈ L.map (·.2)
      · rw [c1 c]; exact g.again hp c
      · exact g.fresh hp (c2 c)
    have k2 : ∀ b o, h0.get? b = some o → h'.get? b = some o := fun b o e => (sb.2 b (fun z => by rw [z, T0] at e; cases e)).trans (k' b o e)
    refine wpAny_pure ⟨plainId_quiet F.plain_set_update_loop _, ih (i + 1) _ (by omega) lt (Wk.frame _ s' _ _ st' (Nat.le_add_right _ _) fun b hb o e => ?_) k2 ⟨L', es', ep', t', S2, g'⟩ fun s2 L2 es2 ep2 t2 mv2 S3 g3 k3 => ?_⟩
    · rw [sb.2 b (fun z : b = T => notT (z ▸ hb))]; exact e
    · refine end_ s2 L2 es2 ep2 t2 (Moved.trans Wk.gtrans ((mv.mono more).then_heap (Nat.le_add_right _ _) fun b o hb e => ?_) mv2) S3 g3 k3
      rw [sb.2 b (fun z : b = T => hb (by rw [z]; exact List.mem_cons_self))]; exact e
end
end Ms
namespace Ms
open PySem PySem.Spec PyProof.Rows L2
/-! ### set(xs) of a short list of pairs of tuples of ints -/
/-- the set as it is born -/
abbrev newSetO (w : World) : Obj := { cls := .type "set", dict := none, data := .set #[] 0 (.fresh 0 0 (!w.params.followText "set-order")) }
section
variable {P : Program} {w : World} {A : Around} {E : Value → Shared → Prop} {s : Shared}
theorem none_above {h : Heap} {b : Addr} (hb : h.objs.size ≤ b) : h.get? b = none := by
  cases q : h.get? b with
  | none => rfl
  | some o => exact absurd (Nat.lt_of_lt_of_le (Heap.lt_size q) hb) (Nat.lt_irrefl _)
/-- what set(xs) leaves -/
def MadeP (P : Program) (w : World) (s : Shared) (ks : List (Addr × (List Int × List Int))) (s2 : Shared) : Prop :=
  ∃ h' tk L es ep t, s2 = { s with heap := h', toks := tk } ∧ SetPR P w h' s.heap.objs.size L es ep t ∧ GotP ks ks.length L ∧ ∀ b o, s.heap.get? b = some o → h'.get? b = some o
theorem call_set_pr {l : Addr} {items : Array Value} (ks : List (Addr × (List Int × List Int))) {Q : Value → Shared → Prop} (hh : A.handled = none) (hl : s.heap.IsList l items) (it : items.toList = ks.map fun p => Value.ref p.1)
    (at_ : ∀ p ∈ ks, IsPr P w s.heap p.2 p.1) (few : ks.length ≤ 4) (hu : A.units + 16 < cLine) (z : ∀ s2, MadeP P w s ks s2 → Q (.ref s.heap.objs.size) s2) :
    wpAny (model P w) A (call (.type "set") [.ref l]) Q E s := by
  have sz : items.size = ks.length := by
    have e := congrArg List.length it
    rwa [Array.length_toList, List.length_map] at e
  obtain ⟨c, tl, mro⟩ := F.called_set.mro
  have made := F.called_set.made
  have sub := F.called_set.sub
  refine wpAny_call (codeAny_of_tree ?_)
  show wpAny _ _ (callAny (.type "set") _) _ _ _
  refine wpAny_pure ⟨Code.quiet_builtin _ (by decide +kernel), codeAny_builtin F.entry_type_call ?_⟩
  rw [Around.under_plain (weight_type_call_type "set" [.ref l] []) rfl]
  have no := F.called_set.notType
  have can := F.called_set.canCreate
  have chk := F.typeCall_set_1 (.ref l)
  repeat (first | assumption | wp_step)
  refine codeAny_mono (code_set_led1 (.ref l) (E := E) (Q₁ := fun v s₁ => v = .ref s.heap.objs.size ∧ s₁ = { s with heap := s.heap.push (newSetO w) }) ⟨rfl, rfl⟩) fun r s1 hr => ?_
  match r, hr with
  | .error e, hr => exact hr
  | .ok (.next), hr => exact hr.elim
  | .ok (.brk), hr => exact hr.elim
  | .ok (.cont), hr => exact hr.elim
  | .ok (.ret v), hr =>
    obtain ⟨rfl, rfl⟩ := hr
    have S : (s.heap.push (newSetO w)).get? s.heap.objs.size = some (newSetO w) := Heap.get?_push_size _ rfl
    have ty : Shared.TypeIs { s with heap := s.heap.push (newSetO w) } (.ref s.heap.objs.size) "set" := ⟨_, S, rfl⟩
    have look := F.called_set.init.lookup
    have bind := F.called_set.init.bind (.ref s.heap.objs.size)
    repeat (first | assumption | wp_step)
    refine codeAny_mono (codeAny_call_builtin (R := wants (fun r s2 => r = .none ∧ MadeP P w s ks s2) E) F.called_set.init.plain F.entry_set_init (check_set_init_1 ty ?_)) fun r2 s2 h2 => ?_
    · have le : l < s.heap.objs.size := let ⟨_, e, _⟩ := hl; Heap.lt_size e
      have hl1 : (s.heap.push (newSetO w)).IsList l items := by
        obtain ⟨o, e, r⟩ := hl
        exact ⟨o, Heap.get?_push_of_some _ e, r⟩
      obtain ⟨⟨ocls, odict, odata, oslots⟩, oe, oc, on, od⟩ := id hl1
      simp only at oc od
      subst oc
      subst od
      have sub1 := F.sub_list_set
      have sub2 := F.sub_list_frozenset
      have neq : (Value.type "list" == Value.type "dict") = false := by decide
      unfold Builtin.«set.__init__» noKeywords Builtin.Frozenset.updateFrom
      generalize eq : pyIter = it1
      wp_walk
      subst eq
      refine wpAny_pyIter_list hl1 (wpAny_bind (wpAny_runValue ?_))
      have h3 : A.in1.in1.in1.handled = none := by simp [hh]
      have psz : (s.heap.push (newSetO w)).objs.size = s.heap.objs.size + 1 := Heap.size_push ..
      have nl : l ≠ (s.heap.push (newSetO w)).objs.size := by
        rw [psz]
        exact Nat.ne_of_lt (Nat.lt_succ_of_lt le)
      have nT : s.heap.objs.size ∉ [(s.heap.push (newSetO w)).objs.size, l] := by
        rw [psz]
        simp only [List.mem_cons, List.mem_singleton, List.not_mem_nil, or_false, not_or]
        exact ⟨Nat.ne_of_lt (Nat.lt_succ_self _), Nat.ne_of_gt le⟩
      refine fill_pr ((Walks.list h3 _ l nl items).toS) s.heap.objs.size nT ks sz few (fun i v hv => ?_) s.heap at_ (none_above (Nat.le_refl _)) (fun b hb => none_above (by rw [List.mem_singleton.mp hb, psz]; exact Nat.le_succ _)) (by show A.units + 1 + 1 + 1 + 8 < cLine; omega)
        (items.size - 0) 0 _ (by omega) (Nat.zero_le _) ⟨⟨_, Heap.get?_push_size _ rfl, rfl, rfl⟩, (hl1.push _)⟩ (fun b o e => Heap.get?_push_of_some _ (Heap.get?_push_of_some _ e)) ⟨[], #[], 0, _, setPR_new (Heap.get?_push_of_some _ S), .none ks⟩ ?_
      · have e : items.toList[i]? = some v := by rw [Array.getElem?_toList]; exact hv
        rw [it, List.getElem?_map] at e
        cases ek : ks[i]? with
        | none => rw [ek] at e; cases e
        | some p =>
          rw [ek] at e
          exact ⟨p, rfl, (Option.some.inj e).symm⟩
      · intro s' L es ep t mv R' g k
        obtain ⟨h', g2, d', tk', os'⟩ := s'
        obtain rfl : g2 = s.gens := mv.gens
        obtain rfl : d' = s.drawn := mv.drawn
        obtain rfl : os' = s.os := mv.os
        rw [sz] at g
        show wpAny _ _ _ _ _ _
        refine wpAny_pure ?_
        show wpAny _ _ (ret Value.none) _ _ _
        exact wpAny_pure ⟨rfl, h', tk', L, es, ep, t, rfl, R', g, k⟩
    · match r2, h2 with
      | .error e, h2 => exact h2
      | .ok (.next), h2 => exact h2.elim
      | .ok (.brk), h2 => exact h2.elim
      | .ok (.cont), h2 => exact h2.elim
      | .ok (.ret v), h2 =>
        obtain ⟨rfl, m⟩ := h2
        repeat (first | assumption | wp_step)
        exact z _ m
end
end Ms
namespace Ms
open PySem PySem.Spec PyProof.Rows L2
/-! ### set(xs) of pairs, as the layer tells it -/
/-- the set at a, without its pairs -/
structure SetP0 (P : Program) (w : World) (h : Heap) (a : Addr) (L : List (Addr × (List Int × List Int))) : Prop where
  ex : ∃ (es : Array (Int × Value)) (ep : Nat) (t : SetTable), (∃ o, h.get? a = some o ∧ o.ExactSet ∧ o.data = .set es ep t) ∧ es.toList = (L.map fun p => (phash w p.2, Value.ref p.1)) ∧ TabOk t (L.map fun p => phash w p.2) ∧ (L.map (·.2)).Nodup ∧ t.plain = true ∧
    (w.params.followText "set-order" = true ∨ t.led = true) ∧ t.mask = 7 ∧ L.length ≤ 4
def SetPO (P : Program) (w : World) (a : Addr) (L : List (Addr × (List Int × List Int))) : HO := .ext fun h => SetP0 P w h a L
section
variable {P : Program} {w : World} {h : Heap} {a : Addr} {L : List (Addr × (List Int × List Int))} {es : Array (Int × Value)} {ep : Nat} {t : SetTable}
theorem SetPR.p0 (R : SetPR P w h a L es ep t) : SetP0 P w h a L := ⟨es, ep, t, R.ob, R.rows, R.tab, R.nd, R.plain, R.led, R.m7, R.few⟩
theorem SetP0.full (R : SetP0 P w h a L) (at_ : ∀ p ∈ L, IsPr P w h p.2 p.1) : ∃ es ep t, SetPR P w h a L es ep t := by
  obtain ⟨es, ep, t, a1, a2, a3, a4, a5, a6, a7, a8⟩ := R.ex
  exact ⟨es, ep, t, a1, a2, a3, a4, at_, a5, a6, a7, a8⟩
theorem setPO_new {H : Hp} (R : SetP0 P w h a L) : ObjOk P w H h a (SetPO P w a L) := by
  obtain ⟨es, ep, t, ⟨o, oa, _⟩, _⟩ := R.ex
  refine ⟨R, ⟨o, oa⟩, fun h1 h2 p k => ?_⟩
  obtain ⟨es2, ep2, t2, ⟨o2, oa2, r2⟩, q2⟩ := SetP0.ex p
  exact ⟨es2, ep2, t2, ⟨o2, k o2 oa2, r2⟩, q2⟩
/-- at p: the pair of rows q, as the heap tells it -/
def PrAt (K : PySem.W.Frag) (H : Hp) (p : Addr × (List Int × List Int)) : Prop := ∃ b c, SqT K H p.1 [.ref b, .ref c] ∧ SqT K H b (p.2.1.map V.int) ∧ SqT K H c (p.2.2.map V.int)
end
section
variable {X : Cx}
theorem isPr_of {pins : List (Addr × Obj)} {σ : L2.St} {H : Hp} {s : Shared} {p : Addr × (List Int × List Int)} (I : L2.Inv X pins σ H s) (h : PrAt X.K H p) : IsPr X.prog X.w s.heap p.2 p.1 := by
  obtain ⟨b, c, e, e1, e2⟩ := h
  obtain ⟨its, r, ⟨o, ho, hc, n, hd⟩, _⟩ := I.tuple e
  have er : its = [.ref b, .ref c] := by
    cases r with
    | cons r1 r =>
      cases r1
      cases r with
      | cons r2 r =>
        cases r2
        cases r
        rfl
  exact ⟨o, its.toArray, n, b, c, ho, hc, hd, by rw [er], L2.Inv.isT I e1, L2.Inv.isT I e2⟩
/-- set(xs), xs a list of at most four pairs -/
def rSetOfP (K : PySem.W.Frag) (P : Program) (w : World) : List V → Hp → VK → Prop := fun xs H Q => ∃ (l : Addr) (ks : List (Addr × (List Int × List Int))), xs = [V.ref l] ∧ SqL K H l (ks.map fun p => V.ref p.1) ∧ (∀ p ∈ ks, PrAt K H p) ∧ ks.length ≤ 4 ∧
  ∀ a L, H a = none → (∀ p ∈ L, p ∈ ks) → (∀ p ∈ ks, p.2 ∈ L.map (·.2)) → Q (.ref a) (upd H a (SetPO P w a L))
theorem cr_setOfP (hc : X.calm = true) (hu : X.A.units + 64 < cLine) : CallR X (.type "set") (rSetOfP X.K X.prog X.w) := by
  intro pins s σ H xs us Q I r h
  obtain ⟨l, ks, rfl, hl, hk, few, q⟩ := h
  rw [Vals.ref1 r]
  obtain ⟨its, rv, pl, _⟩ := I.list hl
  have refs : ∀ {zs : List (Addr × (List Int × List Int))} {vs : List Value}, Vals (zs.map fun p => V.ref p.1) vs → vs = zs.map fun p => Value.ref p.1 := by
    intro zs
    induction zs with
    | nil => intro vs r; cases r; rfl
    | cons p zs ih =>
      intro vs r
      cases r with
      | cons r1 r2 =>
        cases r1
        rw [ih r2]; rfl
  refine call_set_pr (P := X.prog) (w := X.w) ks (I.ok.hd hc) pl.isList (by simpa using refs rv) (fun p hp => isPr_of I (hk p hp)) few (by omega) fun s2 m => ?_
  obtain ⟨h', tk, L, es, ep, t, rfl, R, g, k⟩ := m
  refine ⟨.ref s.heap.objs.size, upd H s.heap.objs.size (SetPO X.prog X.w s.heap.objs.size L), I.laid (t' := tk) k (Nat.le_refl _) (setPO_new R.p0), rfl, q _ L (I.hok.fresh (Nat.le_refl _)) (fun p hp => ?_) fun p hp => ?_⟩
  · exact List.mem_of_mem_take (g.from_ p hp)
  · exact g.all p (by rw [List.take_length]; exact hp)
end
end Ms
namespace Ms
open PySem PySem.Spec PyProof.Rows L2
/-! ### sorted(set) of pairs of tuples of ints -/
abbrev encP (p : Addr × (List Int × List Int)) : PyData := pairD p.2.1 p.2.2
theorem alike_pair (p q : Addr × (List Int × List Int)) : PySem.W.alike (encP p) (encP q) = true := by
  show (PySem.W.alikeAll (p.2.1.map .int) (q.2.1.map .int) && (PySem.W.alikeAll (p.2.2.map .int) (q.2.2.map .int) && true)) = true
  rw [alike_intsB, alike_intsB]; rfl
theorem depth_pair (p : Addr × (List Int × List Int)) : (encP p).depth ≤ 2 := by
  show max (PyData.depthAll (p.2.1.map .int) + 1) (max (PyData.depthAll (p.2.2.map .int) + 1) 0) + 1 ≤ 2
  rw [depth_ints, depth_ints]; decide
section
variable {P : Program} {w : World} {A : Around} {E : Value → Shared → Prop} {s : Shared}
theorem reads_row {h : Heap} {b : Addr} {r : List Int} (hk : IsT P w h r b) : Reads h (.ref b) (rowD r) [] := by
  obtain ⟨o, items, n, ho, hc, hd, hi⟩ := hk
  have key : ∀ {k : List Int} {vs : List Value}, ItemsAre (intKind P w) k vs → ReadsAll h vs (k.map PyData.int) [] := by
    intro k vs hi
    induction hi with
    | nil => exact .nil
    | @cons k0 v ks vs h1 _ ih =>
      obtain ⟨t, e⟩ := Value.isInt_shape h1
      subst e
      exact .cons (.int k0 t) ih
  exact .tuple ho hc hd (key hi)
theorem reads_pr {h : Heap} {p : Addr × (List Int × List Int)} (hk : IsPr P w h p.2 p.1) : Reads h (.ref p.1) (encP p) [] := by
  obtain ⟨o, items, n, b1, b2, ho, hc, hd, hi, t1, t2⟩ := hk
  refine .tuple ho hc hd ?_
  rw [hi]
  exact .cons (reads_row t1) (.cons (reads_row t2) .nil)
end
end Ms
namespace Ms
open PySem PySem.Spec PyProof.Rows L2
/-! ### sorted(set) of pairs of tuples of ints: the call -/
section
variable {P : Program} {w : World} {A : Around} {E : Value → Shared → Prop} {s : Shared} {a : Addr} {L : List (Addr × (List Int × List Int))} {es : Array (Int × Value)} {ep : Nat} {t : SetTable}
theorem refs_in : ∀ {vs : List Value}, (∀ v ∈ vs, ∃ p ∈ L, v = Value.ref p.1) → ∃ L1 : List (Addr × (List Int × List Int)), vs = L1.map (fun p => Value.ref p.1) ∧ ∀ p ∈ L1, p ∈ L
  | [], _ => ⟨[], rfl, fun p hp => nomatch hp⟩
  | v :: vs, h => by
    obtain ⟨p, hp, e⟩ := h v List.mem_cons_self
    obtain ⟨L1, e1, h1⟩ := refs_in fun u hu => h u (List.mem_cons_of_mem _ hu)
    refine ⟨p :: L1, by rw [List.map_cons, e, e1], fun r hr => ?_⟩
    rcases List.mem_cons.mp hr with rfl | hr
    · exact hp
    · exact h1 r hr
theorem each_refs : ∀ L1 : List (Addr × (List Int × List Int)), PySem.W.EachIs (fun v (p : Addr × (List Int × List Int)) => v = Value.ref p.1) (L1.map fun p => Value.ref p.1) L1
  | [] => .nil
  | p :: L1 => .cons rfl (each_refs L1)
theorem refs_each : ∀ {out : List Value} {L1 : List (Addr × (List Int × List Int))}, PySem.W.EachIs (fun v (p : Addr × (List Int × List Int)) => v = Value.ref p.1) out L1 → out = L1.map fun p => Value.ref p.1
  | _, _, .nil => rfl
  | _, _, .cons h r => by rw [h, refs_each r]; rfl
theorem each_reads {h : Heap} {b : Addr} : ∀ {L1 : List (Addr × (List Int × List Int))}, (∀ p ∈ L1, IsPr P w h p.2 p.1) → PySem.W.EachIs (fun v p => ∃ as, Reads h v (encP p) as ∧ b ∉ as) (L1.map fun p => Value.ref p.1) L1
  | [], _ => .nil
  | p :: L1, k => .cons ⟨[], reads_pr (k p List.mem_cons_self), fun z => nomatch z⟩ (each_reads fun q hq => k q (List.mem_cons_of_mem _ hq))
/-- L1 is L in some order -/
theorem perm_refs (R : SetPR P w s.heap a L es ep t) {L1 : List (Addr × (List Int × List Int))} (sub : ∀ p ∈ L1, p ∈ L) (pm : (L1.map fun p => Value.ref p.1).Perm (L.map fun p => Value.ref p.1)) : L1.Perm L := by
  have one : ∀ p ∈ L, ∀ q ∈ L, p.1 = q.1 → p = q := fun p hp q hq e => by
    have a1 := nested_pr (R.prs p hp)
    have a2 := nested_pr (R.prs q hq)
    rw [e] at a1
    exact Prod.ext e (prKey_inj (NestedIs.inj _ _ _ a1 a2))
  have nL : L.Nodup := nodup_of_map R.nd
  have nr : (L.map fun p => Value.ref p.1).Nodup := by
    refine List.pairwise_map.mpr (nL.imp_of_mem fun {p q} hp hq ne e => ?_)
    injection e with e
    exact ne (one p hp q hq e)
  refine (List.perm_ext_iff_of_nodup (nodup_of_map (pm.nodup_iff.mpr nr)) nL).mpr fun p => ⟨sub p, fun hp => ?_⟩
  obtain ⟨q, hq, e⟩ := List.mem_map.mp (pm.mem_iff.mpr (List.mem_map.mpr ⟨p, hp, rfl⟩))
  injection e with e
  rw [← one q (sub q hq) p hp e]
  exact hq
theorem sorted_pr (R : SetPR P w s.heap a L es ep t) (hh : A.handled = none) (hu : A.units + 16 < cLine) {Q : Value → Shared → Prop}
    (z : ∀ s' p (out : Array Value) (c : Nat) (L1 : List (Addr × (List Int × List Int))), (∀ b o, s.heap.get? b = some o → s'.heap.get? b = some o) → s'.gens = s.gens → s'.os = s.os → s.heap.objs.size ≤ p →
      s'.heap.get? p = some (seqObj "list" out c) → L1.Perm L → out.toList = (L1.mergeSort (PySem.W.dataLe false encP)).map (fun p => Value.ref p.1) → Q (.ref p) s') :
    wpAny (model P w) A (call (.builtin "sorted") [.ref a]) Q E s := by
  obtain ⟨o, oa, oe, od⟩ := R.ob
  have few := R.few
  refine Calls.call_function_entry kind_sorted plain_sorted entry_sorted (args_sorted1 _) ?_
  unfold Builtin.«sorted»
  refine wpAny_bind (m := checkCount "sorted" 1 1 _) (wpAny_pure ?_)
  refine wpAny_bind (collect_set (A := A.in1) hh ⟨o, oa, oe.1, od⟩ R.fits (by have := R.sz; unfold scanBound; omega) R.tab.ris R.led fun s1 vs k1 sz1 g1 o1 pm => ?_)
  have items : es.toList.map (·.2) = L.map fun p => Value.ref p.1 := by
    rw [R.rows, List.map_map]
    rfl
  rw [items] at pm
  obtain ⟨L1, rfl, sub⟩ := refs_in (L := L) (vs := vs) fun v hv => by
    obtain ⟨p, hp, e⟩ := List.mem_map.mp (pm.mem_iff.mp hv)
    exact ⟨p, hp, e.symm⟩
  have pL := perm_refs R sub pm
  have l1 : L1.length ≤ 4 := by rw [pL.length_eq]; exact few
  refine wpAny_bind (wpAny_newList ?_ (by rw [sizeLine_eq, List.length_map]; omega))
  have lo : (s1.heap.push (seqObj "list" (L1.map fun p => Value.ref p.1).toArray 0)).get? s1.heap.objs.size = some (seqObj "list" (L1.map fun p => Value.ref p.1).toArray 0) := Heap.get?_push_size _ rfl
  refine wpAny_bind (wpAny_holding (PySem.W.list_sort_data (s := { s1 with heap := s1.heap.push (seqObj "list" (L1.map fun p => Value.ref p.1).toArray 0) }) (bs := L1) (enc := encP) lo (each_refs L1)
    (each_reads (P := P) (w := w) fun p hp => isPr_keep (R.prs p (sub p hp)) fun b u e => Heap.get?_push_of_some _ (k1 b u e)) (PySem.W.AllAlike.of alike_pair) (PySem.W.Sortable.tuples fun p => ⟨_, _, rfl⟩) (by rw [sizeLine_eq]; omega)
    (fun p _ => by
      have := depth_pair p
      show A.units + 1 + 1 + _ < cLine
      omega) fun out _ eo => ?_))
  obtain ⟨c, hc⟩ := sortedHeap_at (vs := (L1.map fun p => Value.ref p.1)) (out := out.toArray) lo
  refine wpAny_pure ⟨_, rfl, z _ s1.heap.objs.size out.toArray c L1 (fun b u e => ?_) g1 o1 sz1 hc pL (by simpa using refs_each eo)⟩
  have q := k1 b u e
  have lt := Heap.lt_size q
  show (sortedHeap (s1.heap.push (seqObj "list" (L1.map fun p => Value.ref p.1).toArray 0)) s1.heap.objs.size (L1.map fun p => Value.ref p.1) out.toArray).get? b = some u
  rw [sortedHeap_old (Nat.ne_of_lt lt) (by rw [size_push']; exact Nat.lt_succ_of_lt lt)]
  exact Heap.get?_push_of_some _ q
end
end Ms
namespace Ms
open PySem PySem.Spec PyProof.Rows L2
/-! ### sorted(set) of pairs, as the layer tells it -/
/-- the pairs of the set in their order -/
abbrev sortP (L : List (Addr × (List Int × List Int))) : List (Addr × (List Int × List Int)) := L.mergeSort (PySem.W.dataLe false encP)
section
variable {X : Cx}
def rSortedP (K : PySem.W.Frag) (P : Program) (w : World) : List V → Hp → VK → Prop := fun vs H Q => ∃ (a : Addr) (L : List (Addr × (List Int × List Int))), vs = [V.ref a] ∧ H a = some (SetPO P w a L) ∧ (∀ p ∈ L, PrAt K H p) ∧
  ∀ (L1 : List (Addr × (List Int × List Int))) (p : Addr), L1.Perm L → (L1.map (·.2)).Nodup → L1.length ≤ 4 → H p = none → Q (.ref p) (upd H p (.lst ((sortP L1).map fun q => V.ref q.1)))
theorem cr_sortedP (hc : X.calm = true) (hu : X.A.units + 64 < cLine) : CallR X (.builtin "sorted") (rSortedP X.K X.prog X.w) := by
  intro pins s σ H vs us Q I r h
  obtain ⟨a, L, rfl, ha, hk, q⟩ := h
  obtain ⟨es, ep, t, R⟩ := SetP0.full (show SetP0 X.prog X.w s.heap a L from (I.hok a _ ha).1) fun p hp => isPr_of I (hk p hp)
  rw [Vals.ref1 r]
  refine sorted_pr R (I.ok.hd hc) (by omega) fun s' p out c L1 k g o hp hg pm eo => ?_
  have few : L1.length ≤ 4 := by rw [pm.length_eq]; exact R.few
  have nd : (L1.map (·.2)).Nodup := (pm.map (·.2)).nodup_iff.mpr R.nd
  have hn : H p = none := I.hok.fresh hp
  have refs : ∀ zs : List (Addr × (List Int × List Int)), Vals (zs.map fun p => V.ref p.1) (zs.map fun p => Value.ref p.1) := by
    intro zs
    induction zs with
    | nil => exact .nil
    | cons p zs ih => exact .cons rfl ih
  have hv : Vals ((sortP L1).map fun q => V.ref q.1) out.toList := by rw [eo]; exact refs _
  have hlen : ((sortP L1).map fun q => V.ref q.1).length ≤ sizeLine := by rw [List.length_map, List.length_mergeSort, sizeLine_eq]; omega
  have J : L2.Inv X pins σ (upd H p (.lst ((sortP L1).map fun q => V.ref q.1))) { s with heap := s'.heap, gens := s'.gens, drawn := s'.drawn, toks := s'.toks } :=
    I.call (ch := []) (Un.laid k hp hn) (I.hok.laid k hp ⟨hlen, out.toList, c, hv, hg⟩) (by rw [g]; exact I.bare) (fun _ z => nomatch z)
  have e : s' = { s with heap := s'.heap, gens := s'.gens, drawn := s'.drawn, toks := s'.toks } := by
    cases s'
    cases s
    cases o
    rfl
  rw [e]
  exact ⟨.ref p, _, J, rfl, q L1 p pm nd few hn⟩
end
end Ms
namespace Ms
open PySem PySem.Spec PyProof.Rows L2
/-! ### zip of lists: its cells, its next item, its end -/
/-- where a zip stands, but for the tuple that it hands out again -/
structure ZpAt (h : Heap) (rows : List (Addr × Array Value)) (i0 j : Nat) : Prop where
  zip : ∃ f0 f1, h.get? (i0 + rows.length + 2) = some { cls := .type "zip", dict := none, data := .fields #[f0, f1, .bool false, .ref (i0 + rows.length), .ref (i0 + rows.length + 1)], slots := #[] } ∧ (f0 = .none ∨ ∃ b : Nat, f0 = rawInt b)
  ti : h.get? (i0 + rows.length) = some { cls := .type "tuple", data := .seq (zrefs i0 rows.length).toArray }
  to : ∃ ys : Array Value, h.get? (i0 + rows.length + 1) = some { cls := .type "tuple", data := .seq ys } ∧ ys.size = rows.length
  its : ∀ (k : Nat) p, rows[k]? = some p → h.IsListIter (i0 + k) p.1 j
section
variable {prog : Program} {w : World} {A : Around} {E : Value → Shared → Prop} {s : Shared}
/-- in the middle of a step: k iterators have moved on -/
structure ZpMid (h0 h : Heap) (rows : List (Addr × Array Value)) (i0 j k : Nat) (f0 f1 : Value) : Prop where
  zip : h.get? (i0 + rows.length + 2) = some { cls := .type "zip", dict := none, data := .fields #[f0, f1, .bool false, .ref (i0 + rows.length), .ref (i0 + rows.length + 1)], slots := #[] }
  ti : h.get? (i0 + rows.length) = some { cls := .type "tuple", data := .seq (zrefs i0 rows.length).toArray }
  on : ∀ (i : Nat) p, i < k → rows[i]? = some p → h.IsListIter (i0 + i) p.1 (j + 1)
  off : ∀ (i : Nat) p, k ≤ i → rows[i]? = some p → h.IsListIter (i0 + i) p.1 j
  out : ZnOut i0 rows.length h0 h
  sz : h.objs.size = h0.objs.size
theorem lstIter_ne {h h' : Heap} {it l : Addr} {i : Nat} {x : Addr} (t : h.IsListIter it l i) (sb : Heap.SameBut x h h') (ne : it ≠ x) : h'.IsListIter it l i := t.at fun o e => (sb.2 _ ne).trans e
theorem ZpMid.step {h0 h h' : Heap} {rows : List (Addr × Array Value)} {i0 j k : Nat} {f0 f1 : Value} {p : Addr × Array Value} (M : ZpMid h0 h rows i0 j k f0 f1) (hp : rows[k]? = some p) (it : h'.IsListIter (i0 + k) p.1 (j + 1)) (sb : Heap.SameBut (i0 + k) h h') : ZpMid h0 h' rows i0 j (k + 1) f0 f1 := by
  have hk : k < rows.length := (List.getElem?_eq_some_iff.mp hp).1
  refine ⟨(sb.2 _ (nn (by omega))).trans M.zip, (sb.2 _ (nn (by omega))).trans M.ti, fun i q hi hq => ?_, fun i q hi hq => ?_, fun (c : Nat) o hc e => (sb.2 c (nn (by omega))).trans (M.out c o hc e), sb.1.trans M.sz⟩
  · by_cases e : i = k
    · subst e
      rw [hp] at hq
      cases hq
      exact it
    · exact lstIter_ne (M.on i q (by omega) hq) sb (nn (by omega))
  · exact lstIter_ne (M.off i q (by omega) hq) sb (nn (by omega))
theorem ZpMid.over {h0 h h' : Heap} {rows : List (Addr × Array Value)} {i0 j k : Nat} {f0 f1 : Value} (M : ZpMid h0 h rows i0 j k f0 f1) (sb : Heap.SameBut (i0 + rows.length + 1) h h') : ZpMid h0 h' rows i0 j k f0 f1 :=
  ⟨(sb.2 _ (nn (by omega))).trans M.zip, (sb.2 _ (nn (by omega))).trans M.ti, fun i q hi hq => lstIter_ne (M.on i q hi hq) sb (nn (by have := (List.getElem?_eq_some_iff.mp hq).1; omega)), fun i q hi hq => lstIter_ne (M.off i q hi hq) sb (nn (by have := (List.getElem?_eq_some_iff.mp hq).1; omega)),
    fun (c : Nat) o hc e => (sb.2 c (nn (by omega))).trans (M.out c o hc e), sb.1.trans M.sz⟩
theorem ZpAt.mid {h0 h' : Heap} {rows : List (Addr × Array Value)} {i0 j : Nat} {f0 f1 : Value} (Z : ZpAt h0 rows i0 j) (hz : h'.get? (i0 + rows.length + 2) = some { cls := .type "zip", dict := none, data := .fields #[f0, f1, .bool false, .ref (i0 + rows.length), .ref (i0 + rows.length + 1)], slots := #[] }) (sb : Heap.SameBut (i0 + rows.length + 2) h0 h') : ZpMid h0 h' rows i0 j 0 f0 f1 :=
  ⟨hz, (sb.2 _ (nn (by omega))).trans Z.ti, (fun i p hi => absurd hi (Nat.not_lt_zero _)), fun i p _ hq => lstIter_ne (Z.its i p hq) sb (nn (by have := (List.getElem?_eq_some_iff.mp hq).1; omega)), fun (c : Nat) o hc e => (sb.2 c (nn (by omega))).trans e, sb.1⟩
theorem zp_next_item {rows : List (Addr × Array Value)} {i0 j : Nat} {Q : Value → Shared → Prop} (Z : ZpAt s.heap rows i0 j) (tp : ∀ p ∈ rows, s.heap.IsList p.1 p.2) (lo : ∀ p ∈ rows, p.1 < i0) (hj : ∀ p ∈ rows, j < p.2.size) (some_ : rows ≠ []) (few : rows.length ≤ 1000)
    (q : ∀ h' tk, ZpAt h' rows i0 (j + 1) → h'.get? s.heap.objs.size = some { cls := .type "tuple", data := .seq (zcol rows j).toArray } → h'.objs.size = s.heap.objs.size + 1 → ZnOut i0 rows.length s.heap h' → Q (.ref s.heap.objs.size) { s with heap := h', toks := tk }) :
    wpAny (model prog w) A (Builtin.«zip.__next__» ⟨[.ref (i0 + rows.length + 2)], []⟩) (fun fin s' => ∃ v, fin = .done (.ret v) ∧ Q v s') E s := by
  obtain ⟨hp, g, d, tk0, os⟩ := s
  obtain ⟨f0, f1, hz, hf⟩ := Z.zip
  obtain ⟨ys0, hTO, hys⟩ := Z.to
  have hzl : i0 + rows.length + 2 < hp.objs.size := Heap.lt_size hz
  have lc : (zcol rows j).length = rows.length := List.length_map ..
  have tup : ∀ {h : Heap}, ZnOut i0 rows.length hp h → ∀ p ∈ rows, h.IsList p.1 p.2 := fun k p hpm => by
    obtain ⟨o, ho, r⟩ := tp p hpm
    exact ⟨o, k p.1 o (.inl (lo p hpm)) ho, r⟩
  show wpAny _ _ (field (.ref _) 2 >>= _) _ _ _
  refine wpAny_bind (wpAny_field hz rfl (x := .bool false) rfl ?_)
  show wpAny _ _ (field (.ref _) 3 >>= _) _ _ _
  refine wpAny_bind (wpAny_field hz rfl (x := .ref (i0 + rows.length)) rfl ?_)
  refine wpAny_bind (wpAny_seqItems Z.ti rfl ?_)
  have ne : (zrefs i0 rows.length).toArray.isEmpty = false := by
    cases rows with
    | nil => exact absurd rfl some_
    | cons p rs => simp [zrefs]
  simp only [ne, Bool.false_eq_true, if_false]
  refine wpAny_bind (zn_free hz hf ?_ fun h' f1' hz' sb => ?_)
  · simp only [if_true]
    refine wpAny_bind (wpAny_rule ?_)
    refine wpAny_bind (wpAny_field hz rfl (x := .ref (i0 + rows.length + 1)) rfl ?_)
    refine wpAny_bind (wpAny_setField_rec hz (by simp) fun g0 hz0 hs0 => ?_)
    have M0 : ZpMid hp g0 rows i0 j 0 .ellipsis f1 := Z.mid hz0 hs0
    have hT0 : g0.get? (i0 + rows.length + 1) = some { cls := .type "tuple", data := .seq ys0 } := (hs0.2 _ (nn (by omega))).trans hTO
    refine wpAny_bind (wpAny_forIn_list _ (fun left out now => out.1 = none ∧ ∃ (k : Nat) (h : Heap) (tk : Nat) (ys : Array Value), left = (zrefs i0 rows.length).zipIdx.drop k ∧ k ≤ rows.length ∧ now = ⟨h, g, d, tk, os⟩ ∧ ZpMid hp h rows i0 j k .ellipsis f1 ∧ h.get? (i0 + rows.length + 1) = some { cls := .type "tuple", data := .seq ys } ∧ ys.size = rows.length ∧ ys.toList.take k = (zcol rows j).take k)
      _ (fun x rest out now w => ?_) (fun out now w => ?_) _ _ ⟨rfl, 0, g0, tk0, ys0, rfl, Nat.zero_le _, rfl, M0, hT0, hys, rfl⟩)
    · obtain ⟨e0, k, h, tk, ys, el, hk, rfl, M, hT, hy, ey⟩ := w
      obtain ⟨e1, e2⟩ := drop_at el
      obtain ⟨rfl, hk'⟩ := zidx_at e1
      obtain ⟨p, hpk⟩ : ∃ p, rows[k]? = some p := ⟨rows[k], List.getElem?_eq_getElem hk'⟩
      have pm := List.mem_of_getElem? hpk
      refine wpAny_bind (wpAny_onRaise ?_)
      show wpAny _ _ (Builtin.SmallTypes.nextOf (.ref (i0 + k)) >>= _) _ _ ⟨h, g, d, tk, os⟩
      refine wpAny_bind (wpAny_nextOf_list_item (s := ⟨h, g, d, tk, os⟩) (M.off k p (Nat.le_refl _) hpk) (tup M.out p pm) (zitem_of (h := h) (l := p.1) (hj p pm)) fun h1 it1 sb1 => wpAny_pure ?_)
      have M1 := M.step hpk it1 sb1
      have hT1 : h1.get? (i0 + rows.length + 1) = some { cls := .type "tuple", data := .seq ys } := (sb1.2 _ (nn (by omega))).trans hT
      refine wpAny_bind (wpAny_seqItems (s := ⟨h1, g, d, tk, os⟩) hT1 rfl ?_)
      refine wpAny_bind (wpAny_updateSeq (s := ⟨h1, g, d, tk, os⟩) hT1 rfl ?_ (by rw [hy, sizeLine_eq]; omega) (by rw [Array.size_setIfInBounds, hy, sizeLine_eq]; omega))
      refine wpAny_bind (wpAny_letGo (wpAny_pure ?_))
      have sb2 : Heap.SameBut (i0 + rows.length + 1) h1 (h1.update (i0 + rows.length + 1) (Obj.mapSeq fun z => z.setIfInBounds k (p.2.getD j .none))) := Heap.SameBut.update ..
      refine ⟨rfl, k + 1, _, tk, ys.setIfInBounds k (p.2.getD j .none), e2, hk', rfl, M1.over sb2, ?_, by rw [Array.size_setIfInBounds]; exact hy, set_col (by omega) ey (zcol_at hpk)⟩
      rw [Heap.get?_update_self _ hT1 rfl]
      simp [Obj.mapSeq]
    · obtain ⟨e0, k, h, tk, ys, el, hk, rfl, M, hT, hy, ey⟩ := w
      obtain ⟨o1, o2⟩ := out
      obtain rfl : o1 = none := e0
      obtain rfl : k = rows.length := by
        have := congrArg List.length el
        rw [List.length_drop, List.length_zipIdx, List.length_map, List.length_range, List.length_nil] at this
        omega
      have full : ys.toList = zcol rows j := by
        rw [List.take_of_length_le (by rw [Array.length_toList]; omega), List.take_of_length_le (by omega)] at ey
        exact ey
      refine wpAny_bind (wpAny_seqItems (s := ⟨h, g, d, tk, os⟩) hT rfl ?_)
      refine wpAny_bind (wpAny_newTuple ?_ (by rw [Array.length_toList, hy, sizeLine_eq]; omega))
      refine wpAny_bind ?_
      unfold Builtin.SmallTypes.ownedTupleHandOut
      have hsz : h.objs.size = hp.objs.size := M.sz
      rw [full]
      have hz6 : (h.push { cls := .type "tuple", data := .seq (zcol rows j).toArray }).get? (i0 + rows.length + 2) = _ := Heap.get?_push_of_some _ M.zip
      refine wpAny_bind (wpAny_setField_rec hz6 (by simp) fun h7 hz7 hs7 => ?_)
      refine wpAny_setField_rec hz7 (by simp) fun h8 hz8 hs8 => ?_
      refine wpAny_pure ⟨_, rfl, ?_⟩
      have up : ∀ (c : Nat) o, c ≠ i0 + rows.length + 2 → h.get? c = some o → h8.get? c = some o := fun c o hc e => (hs8.2 c hc).trans ((hs7.2 c hc).trans (Heap.get?_push_of_some _ e))
      have new : h8.get? hp.objs.size = some { cls := .type "tuple", data := .seq (zcol rows j).toArray } := by
        rw [← hsz]
        have hne : h.objs.size ≠ i0 + rows.length + 2 := by omega
        exact (hs8.2 _ hne).trans ((hs7.2 _ hne).trans (Heap.get?_push_size _ rfl))
      have zz : ZpAt h8 rows i0 (j + 1) := ⟨⟨rawInt h.objs.size, .bool false, hz8, .inr ⟨_, rfl⟩⟩, up _ _ (by omega) M.ti, ⟨ys, up _ _ (by omega) hT, hy⟩, fun i p hi => (M.on i p (List.getElem?_eq_some_iff.mp hi).1 hi).at fun o e => up _ o (by have := (List.getElem?_eq_some_iff.mp hi).1; omega) e⟩
      have out : ZnOut i0 rows.length hp h8 := fun (c : Nat) o hc e => up c o (by omega) (M.out c o hc e)
      have s8 : h8.objs.size = hp.objs.size + 1 := by rw [hs8.1, hs7.1, Heap.size_push, hsz]
      have fin := q h8 tk zz new s8 out
      rw [← hsz] at fin
      exact fin
  · simp only [Bool.false_eq_true, if_false]
    have M0 : ZpMid hp h' rows i0 j 0 f0 f1' := Z.mid hz' sb
    have hT0 : h'.get? (i0 + rows.length + 1) = some { cls := .type "tuple", data := .seq ys0 } := (sb.2 _ (nn (by omega))).trans hTO
    rw [← Array.forIn_toList]
    refine wpAny_bind (wpAny_forIn_list _ (fun left out now => out.1 = none ∧ ∃ (k : Nat) (h : Heap) (tk : Nat), left = (zrefs i0 rows.length).drop k ∧ k ≤ rows.length ∧ now = ⟨h, g, d, tk, os⟩ ∧ ZpMid hp h rows i0 j k f0 f1' ∧ h.get? (i0 + rows.length + 1) = some { cls := .type "tuple", data := .seq ys0 } ∧ out.2.toList = (zcol rows j).take k)
      _ (fun x rest out now w => ?_) (fun out now w => ?_) _ _ ⟨rfl, 0, h', tk0, rfl, Nat.zero_le _, rfl, M0, hT0, rfl⟩)
    · obtain ⟨e0, k, h, tk, el, hk, rfl, M, hT, ey⟩ := w
      obtain ⟨o1, o2⟩ := out
      obtain rfl : o1 = none := e0
      obtain ⟨e1, e2⟩ := drop_at el
      have hk' : k < rows.length := by
        have := (List.getElem?_eq_some_iff.mp e1).1
        rw [List.length_map, List.length_range] at this
        exact this
      rw [zrefs_at hk'] at e1
      cases e1
      obtain ⟨p, hpk⟩ : ∃ p, rows[k]? = some p := ⟨rows[k], List.getElem?_eq_getElem hk'⟩
      have pm := List.mem_of_getElem? hpk
      refine wpAny_bind (wpAny_holding ?_)
      show wpAny _ _ (Builtin.SmallTypes.nextOf (.ref (i0 + k)) >>= _) _ _ ⟨h, g, d, tk, os⟩
      refine wpAny_bind (wpAny_nextOf_list_item (s := ⟨h, g, d, tk, os⟩) (M.off k p (Nat.le_refl _) hpk) (tup M.out p pm) (zitem_of (h := h) (l := p.1) (hj p pm)) fun h1 it1 sb1 => wpAny_pure (wpAny_pure ?_))
      refine ⟨rfl, k + 1, h1, tk, e2, hk', rfl, M.step hpk it1 sb1, (sb1.2 _ (nn (by omega))).trans hT, ?_⟩
      rw [Array.toList_push, take_col hpk]
      exact congrArg (· ++ [p.2.getD j .none]) ey
    · obtain ⟨e0, k, h, tk, el, hk, rfl, M, hT, ey⟩ := w
      obtain ⟨o1, o2⟩ := out
      obtain rfl : o1 = none := e0
      obtain rfl : k = rows.length := by
        have := congrArg List.length el
        rw [List.length_drop, List.length_map, List.length_range, List.length_nil] at this
        omega
      rw [List.take_of_length_le (by omega)] at ey
      have ey : o2.toList = zcol rows j := ey
      have hsz : h.objs.size = hp.objs.size := M.sz
      show wpAny _ _ (newTuple o2.toList >>= _) _ _ _
      rw [ey]
      refine wpAny_bind (wpAny_newTuple ?_ (by rw [lc, sizeLine_eq]; omega))
      refine wpAny_pure ⟨_, rfl, ?_⟩
      have up : ∀ (c : Nat) o, h.get? c = some o → (h.push { cls := .type "tuple", data := .seq (zcol rows j).toArray }).get? c = some o := fun c o e => Heap.get?_push_of_some _ e
      have fin := q _ tk ⟨⟨f0, f1', up _ _ M.zip, hf⟩, up _ _ M.ti, ⟨ys0, up _ _ hT, hys⟩, fun i p hi => (M.on i p (List.getElem?_eq_some_iff.mp hi).1 hi).at fun o e => up _ o e⟩ (by rw [← hsz]; exact Heap.get?_push_size _ rfl) (by rw [Heap.size_push, hsz]) fun (c : Nat) o hc e => up c o (M.out c o hc e)
      rw [← hsz] at fin
      exact fin
theorem zp_next_end {rows : List (Addr × Array Value)} {i0 j k0 : Nat} {p0 : Addr × Array Value} {Q : Fin → Shared → Prop} (hh : A.handled = none) (Z : ZpAt s.heap rows i0 j) (tp : ∀ p ∈ rows, s.heap.IsList p.1 p.2) (lo : ∀ p ∈ rows, p.1 < i0) (hp0 : rows[k0]? = some p0) (hj0 : p0.2.size ≤ j) (hj : ∀ k p, k < k0 → rows[k]? = some p → j < p.2.size) (few : rows.length ≤ 1000)
    (q : ∀ h' tk e, ZnOut i0 rows.length s.heap h' → (∃ o, h'.get? e = some o ∧ o.cls = .type "StopIteration") → E (.ref e) { s with heap := h', toks := tk }) :
    wpAny (model prog w) A (Builtin.«zip.__next__» ⟨[.ref (i0 + rows.length + 2)], []⟩) Q E s := by
  obtain ⟨hp, g, d, tk0, os⟩ := s
  obtain ⟨f0, f1, hz, hf⟩ := Z.zip
  obtain ⟨ys0, hTO, hys⟩ := Z.to
  have hzl : i0 + rows.length + 2 < hp.objs.size := Heap.lt_size hz
  have k0l : k0 < rows.length := (List.getElem?_eq_some_iff.mp hp0).1
  have tup : ∀ {h : Heap}, ZnOut i0 rows.length hp h → ∀ p ∈ rows, h.IsList p.1 p.2 := fun k p hpm => by
    obtain ⟨o, ho, r⟩ := tp p hpm
    exact ⟨o, k p.1 o (.inl (lo p hpm)) ho, r⟩
  have none_ : p0.2[j]? = none := Array.getElem?_eq_none hj0
  show wpAny _ _ (field (.ref _) 2 >>= _) _ _ _
  refine wpAny_bind (wpAny_field hz rfl (x := .bool false) rfl ?_)
  show wpAny _ _ (field (.ref _) 3 >>= _) _ _ _
  refine wpAny_bind (wpAny_field hz rfl (x := .ref (i0 + rows.length)) rfl ?_)
  refine wpAny_bind (wpAny_seqItems Z.ti rfl ?_)
  have ne : (zrefs i0 rows.length).toArray.isEmpty = false := by
    cases rows with
    | nil => simp at k0l
    | cons p rs => simp [zrefs]
  simp only [ne, Bool.false_eq_true, if_false]
  refine wpAny_bind (zn_free hz hf ?_ fun h' f1' hz' sb => ?_)
  · simp only [if_true]
    refine wpAny_bind (wpAny_rule ?_)
    refine wpAny_bind (wpAny_field hz rfl (x := .ref (i0 + rows.length + 1)) rfl ?_)
    refine wpAny_bind (wpAny_setField_rec hz (by simp) fun g0 hz0 hs0 => ?_)
    have M0 : ZpMid hp g0 rows i0 j 0 .ellipsis f1 := Z.mid hz0 hs0
    have hT0 : g0.get? (i0 + rows.length + 1) = some { cls := .type "tuple", data := .seq ys0 } := (hs0.2 _ (nn (by omega))).trans hTO
    refine wpAny_bind (wpAny_forIn_list _ (fun left out now => out.1 = none ∧ ∃ (k : Nat) (h : Heap) (tk : Nat) (ys : Array Value), left = (zrefs i0 rows.length).zipIdx.drop k ∧ k ≤ k0 ∧ now = ⟨h, g, d, tk, os⟩ ∧ ZpMid hp h rows i0 j k .ellipsis f1 ∧ h.get? (i0 + rows.length + 1) = some { cls := .type "tuple", data := .seq ys } ∧ ys.size = rows.length)
      _ (fun x rest out now w => ?_) (fun out now w => ?_) _ _ ⟨rfl, 0, g0, tk0, ys0, rfl, Nat.zero_le _, rfl, M0, hT0, hys⟩)
    · obtain ⟨e0, k, h, tk, ys, el, hk, rfl, M, hT, hy⟩ := w
      obtain ⟨e1, e2⟩ := drop_at el
      obtain ⟨rfl, hk'⟩ := zidx_at e1
      refine wpAny_bind (wpAny_onRaise ?_)
      show wpAny _ _ (Builtin.SmallTypes.nextOf (.ref (i0 + k)) >>= _) _ _ ⟨h, g, d, tk, os⟩
      by_cases ck : k = k0
      · subst ck
        refine wpAny_bind (wpAny_nextOf_list_end (s := ⟨h, g, d, tk, os⟩) hh (M.off k p0 (Nat.le_refl _) hp0) (tup M.out p0 (List.mem_of_getElem? hp0)) none_ fun h1 e x1 he => ?_)
        obtain ⟨oe, hoe, hce⟩ := he
        have hz1 : h1.get? (i0 + rows.length + 2) = _ := x1 _ _ (nn (by omega)) M.zip
        have hez : e ≠ i0 + rows.length + 2 := fun z => by
          subst z
          rw [hz1] at hoe
          cases hoe
          simp at hce
        refine wpAny_setField_rec (s := ⟨h1, g, d, tk, os⟩) hz1 (by simp) fun h2 _ s2 => ?_
        exact q h2 tk e (fun (c : Nat) o hc z => (s2.2 c (nn (by omega))).trans (x1 c o (nn (by omega)) (M.out c o hc z))) ⟨oe, (s2.2 _ hez).trans hoe, hce⟩
      · obtain ⟨p, hpk⟩ : ∃ p, rows[k]? = some p := ⟨rows[k], List.getElem?_eq_getElem hk'⟩
        have pm := List.mem_of_getElem? hpk
        refine wpAny_bind (wpAny_nextOf_list_item (s := ⟨h, g, d, tk, os⟩) (M.off k p (Nat.le_refl _) hpk) (tup M.out p pm) (zitem_of (h := h) (l := p.1) (hj k p (by omega) hpk)) fun h1 it1 sb1 => wpAny_pure ?_)
        have M1 := M.step hpk it1 sb1
        have hT1 : h1.get? (i0 + rows.length + 1) = some { cls := .type "tuple", data := .seq ys } := (sb1.2 _ (nn (by omega))).trans hT
        refine wpAny_bind (wpAny_seqItems (s := ⟨h1, g, d, tk, os⟩) hT1 rfl ?_)
        refine wpAny_bind (wpAny_updateSeq (s := ⟨h1, g, d, tk, os⟩) hT1 rfl ?_ (by rw [hy, sizeLine_eq]; omega) (by rw [Array.size_setIfInBounds, hy, sizeLine_eq]; omega))
        refine wpAny_bind (wpAny_letGo (wpAny_pure ?_))
        have sb2 : Heap.SameBut (i0 + rows.length + 1) h1 (h1.update (i0 + rows.length + 1) (Obj.mapSeq fun z => z.setIfInBounds k (p.2.getD j .none))) := Heap.SameBut.update ..
        refine ⟨rfl, k + 1, _, tk, ys.setIfInBounds k (p.2.getD j .none), e2, by omega, rfl, M1.over sb2, ?_, by rw [Array.size_setIfInBounds]; exact hy⟩
        rw [Heap.get?_update_self _ hT1 rfl]
        simp [Obj.mapSeq]
    · obtain ⟨e0, k, h, tk, ys, el, hk, rfl, M, hT, hy⟩ := w
      have := congrArg List.length el
      rw [List.length_drop, List.length_zipIdx, List.length_map, List.length_range, List.length_nil] at this
      omega
  · simp only [Bool.false_eq_true, if_false]
    have M0 : ZpMid hp h' rows i0 j 0 f0 f1' := Z.mid hz' sb
    rw [← Array.forIn_toList]
    refine wpAny_bind (wpAny_forIn_list _ (fun left out now => out.1 = none ∧ ∃ (k : Nat) (h : Heap) (tk : Nat), left = (zrefs i0 rows.length).drop k ∧ k ≤ k0 ∧ now = ⟨h, g, d, tk, os⟩ ∧ ZpMid hp h rows i0 j k f0 f1')
      _ (fun x rest out now w => ?_) (fun out now w => ?_) _ _ ⟨rfl, 0, h', tk0, rfl, Nat.zero_le _, rfl, M0⟩)
    · obtain ⟨e0, k, h, tk, el, hk, rfl, M⟩ := w
      obtain ⟨o1, o2⟩ := out
      obtain rfl : o1 = none := e0
      obtain ⟨e1, e2⟩ := drop_at el
      have hk' : k < rows.length := by omega
      rw [zrefs_at hk'] at e1
      cases e1
      refine wpAny_bind (wpAny_holding ?_)
      show wpAny _ _ (Builtin.SmallTypes.nextOf (.ref (i0 + k)) >>= _) _ _ ⟨h, g, d, tk, os⟩
      by_cases ck : k = k0
      · subst ck
        refine wpAny_bind (wpAny_nextOf_list_end (s := ⟨h, g, d, tk, os⟩) hh (M.off k p0 (Nat.le_refl _) hp0) (tup M.out p0 (List.mem_of_getElem? hp0)) none_ fun h1 e x1 he => ?_)
        exact q h1 tk e (fun (c : Nat) o hc z => x1 c o (nn (by omega)) (M.out c o hc z)) he
      · obtain ⟨p, hpk⟩ : ∃ p, rows[k]? = some p := ⟨rows[k], List.getElem?_eq_getElem hk'⟩
        have pm := List.mem_of_getElem? hpk
        refine wpAny_bind (wpAny_nextOf_list_item (s := ⟨h, g, d, tk, os⟩) (M.off k p (Nat.le_refl _) hpk) (tup M.out p pm) (zitem_of (h := h) (l := p.1) (hj k p (by omega) hpk)) fun h1 it1 sb1 => wpAny_pure (wpAny_pure ?_))
        exact ⟨rfl, k + 1, h1, tk, e2, by omega, rfl, M.step hpk it1 sb1⟩
    · obtain ⟨e0, k, h, tk, el, hk, rfl, M⟩ := w
      have := congrArg List.length el
      rw [List.length_drop, List.length_map, List.length_range, List.length_nil] at this
      omega
theorem zp_item {rows : List (Addr × Array Value)} {i0 j : Nat} {Q : Option Value → Shared → Prop} (Z : ZpAt s.heap rows i0 j) (tp : ∀ p ∈ rows, s.heap.IsList p.1 p.2) (lo : ∀ p ∈ rows, p.1 < i0) (hj : ∀ p ∈ rows, j < p.2.size) (some_ : rows ≠ []) (few : rows.length ≤ 1000)
    (q : ∀ h' tk, ZpAt h' rows i0 (j + 1) → h'.get? s.heap.objs.size = some { cls := .type "tuple", data := .seq (zcol rows j).toArray } → h'.objs.size = s.heap.objs.size + 1 → ZnOut i0 rows.length s.heap h' → Q (some (.ref s.heap.objs.size)) { s with heap := h', toks := tk }) :
    wpAny (model prog w) A (pyNext (.ref (i0 + rows.length + 2))) Q E s := by
  obtain ⟨f0, f1, hz, hf⟩ := Z.zip
  have ty : s.TypeIs (.ref (i0 + rows.length + 2)) "zip" := ⟨_, hz, rfl⟩
  unfold pyNext
  exact wpAny_bind (wpAny_attempt (wpAny_callSpecial?_slot (name := Str.ofString "__next__") ty F.slot_zip_next
    (wpAny_call_entry F.slot_zip_next ty F.entry_zip_next (zp_next_item Z tp lo hj some_ few fun h' tk a b c d => wpAny_pure (q h' tk a b c d)) (F.args_zip_next_1 _))))
theorem zp_end {rows : List (Addr × Array Value)} {i0 j k0 : Nat} {p0 : Addr × Array Value} {Q : Option Value → Shared → Prop} (hh : A.in1.handled = none) (Z : ZpAt s.heap rows i0 j) (tp : ∀ p ∈ rows, s.heap.IsList p.1 p.2) (lo : ∀ p ∈ rows, p.1 < i0) (hp0 : rows[k0]? = some p0) (hj0 : p0.2.size ≤ j) (hj : ∀ k p, k < k0 → rows[k]? = some p → j < p.2.size) (few : rows.length ≤ 1000)
    (q : ∀ h' tk, ZnOut i0 rows.length s.heap h' → Q none { s with heap := h', toks := tk }) : wpAny (model prog w) A (pyNext (.ref (i0 + rows.length + 2))) Q E s := by
  obtain ⟨f0, f1, hz, hf⟩ := Z.zip
  have ty : s.TypeIs (.ref (i0 + rows.length + 2)) "zip" := ⟨_, hz, rfl⟩
  unfold pyNext
  refine wpAny_bind (wpAny_attempt (wpAny_callSpecial?_slot (name := Str.ofString "__next__") ty F.slot_zip_next
    (wpAny_call_entry F.slot_zip_next ty F.entry_zip_next (zp_next_end hh Z tp lo hp0 hj0 hj few fun h' tk e k he => ?_) (F.args_zip_next_1 _))))
  obtain ⟨o, ho, hc⟩ := he
  refine wpAny_bind (wpAny_isInstance (T := "StopIteration") (b := true) ⟨o, ho, hc⟩ isSubtype_stop ?_)
  exact wpAny_pure (q _ _ k)
theorem zp_iter {rows : List (Addr × Array Value)} {i0 j : Nat} {Q : Value → Shared → Prop} (Z : ZpAt s.heap rows i0 j) (q : Q (.ref (i0 + rows.length + 2)) s) : wpAny (model prog w) A (pyIter (.ref (i0 + rows.length + 2))) Q E s := by
  obtain ⟨f0, f1, hz, hf⟩ := Z.zip
  have ty : s.TypeIs (.ref (i0 + rows.length + 2)) "zip" := ⟨_, hz, rfl⟩
  refine wpAny_pyIter_slot ty F.slot_zip_iter (wpAny_call_entry F.slot_zip_iter ty F.entry_zip_iter ?_ (F.args_zip_iter_1 _))
  show wpAny _ _ (ret (.ref _)) _ _ s
  exact wpAny_pure ⟨_, rfl, "zip", _, ty, F.slot_zip_next.lookup, q⟩
end
end Ms
namespace Ms
open PySem PySem.Spec PyProof.Rows L2
/-! ### for x in zip(xs, ys), x one name: two lists -/
def ItZP (K : PySem.W.Frag) (a b : Addr) : It :=
  ⟨fun i H => ∃ xs ys : List V, SqL K H a xs ∧ SqL K H b ys ∧ i < xs.length ∧ i < ys.length,
    fun i H v H' => ∃ T x y, v = .ref T ∧ H T = none ∧ H' = upd H T (.tup [x, y]) ∧ (∀ xs, SqL K H a xs → xs[i]? = some x) ∧ ∀ ys, SqL K H b ys → ys[i]? = some y,
    fun i H => ∃ xs ys : List V, SqL K H a xs ∧ SqL K H b ys ∧ i ≤ xs.length ∧ i ≤ ys.length ∧ (i = xs.length ∨ i = ys.length)⟩
theorem walk_zp {K : PySem.W.Frag} {a b : Addr} {xs ys : List V} {n : Nat} (hn : n = min xs.length ys.length) : Walk (ItZP K a b) n (fun H => SqL K H a xs ∧ SqL K H b ys) (YPair (fun i => xs[i]?) (fun i => ys[i]?)) := by
  subst hn
  refine ⟨fun i _ hi q => ⟨xs, ys, q.1, q.2, by omega, by omega⟩, fun _ q => ⟨xs, ys, q.1, q.2, by omega, by omega, by omega⟩, fun i H v H' _ q y => ?_⟩
  obtain ⟨T, x, z, h1, h2, h3, h4, h5⟩ := y
  exact ⟨T, x, z, h1, h2, h3, h4 xs q.1, h5 ys q.2⟩
abbrev zpRows (a b : Addr) : List (Addr × Array Value) := [(a, #[]), (b, #[])]
theorem ZpAt.re {h : Heap} {rows rows' : List (Addr × Array Value)} {i0 j : Nat} (Z : ZpAt h rows i0 j) (e : rows.map (·.1) = rows'.map (·.1)) : ZpAt h rows' i0 j := by
  have l : rows.length = rows'.length := by
    have := congrArg List.length e
    rwa [List.length_map, List.length_map] at this
  obtain ⟨a, b, c, d⟩ := Z
  rw [l] at a b c
  refine ⟨a, b, c, fun k p hp => ?_⟩
  have hk : k < rows.length := by
    have := (List.getElem?_eq_some_iff.mp hp).1
    omega
  have e2 : (rows.map (·.1))[k]? = (rows'.map (·.1))[k]? := by rw [e]
  rw [List.getElem?_map, List.getElem?_map, hp, List.getElem?_eq_getElem hk] at e2
  have e3 : rows[k].1 = p.1 := Option.some.inj e2
  rw [← e3]
  exact d k rows[k] (List.getElem?_eq_getElem hk)
theorem zp_live {h : Heap} {a b : Addr} {i0 j : Nat} (Z : ZpAt h (zpRows a b) i0 j) : ∀ c ∈ znCells i0 2, ∃ o, h.get? c = some o ∧ ∀ v, o.data ≠ .cell v := fun (c : Nat) hc => by
  obtain ⟨⟨f0, f1, hz, _⟩, hti, ⟨ys, hto, _⟩, its⟩ := Z
  obtain ⟨o1, e1, _, d1⟩ := its 0 _ rfl
  obtain ⟨o2, e2, _, d2⟩ := its 1 _ rfl
  have hb := zn_in.mp hc
  have cs : c = i0 ∨ c = i0 + 1 ∨ c = i0 + 2 ∨ c = i0 + 3 ∨ c = i0 + 4 := by omega
  rcases cs with rfl | rfl | rfl | rfl | rfl
  · exact ⟨o1, e1, fun v q => by rw [d1] at q; cases q⟩
  · exact ⟨o2, e2, fun v q => by rw [d2] at q; cases q⟩
  · exact ⟨_, hti, fun v q => nomatch q⟩
  · exact ⟨_, hto, fun v q => nomatch q⟩
  · exact ⟨_, hz, fun v q => nomatch q⟩
theorem zp_apart {i0 : Nat} {c : Nat} (h : (show Addr from c) ∉ znCells i0 2) : c < i0 ∨ i0 + 2 + 2 < c := by
  have nc : ¬ (i0 ≤ c ∧ c ≤ i0 + 2 + 2) := fun z => h (zn_in.mpr z)
  omega
theorem turn_zp {P : Program} {w : World} {K : PySem.W.Frag} {nm : Str} {px : Pos} {a b : Addr} {i0 : Nat} (la : a < i0) (lb : b < i0) : Turn P w K (.Name nm px) (ItZP K a b) (znCells i0 2) (show Addr from i0 + 2 + 2) (fun i h => ZpAt h (zpRows a b) i0 i) where
  mem := zn_in.mpr ⟨by omega, by omega⟩
  obj := fun i h st => zp_live st
  keep := fun i h h' st k => by
    obtain ⟨⟨f0, f1, hz, hf⟩, hti, ⟨ys, hto, hy⟩, its⟩ := st
    refine ⟨⟨f0, f1, k _ (zn_in.mpr ⟨by show i0 ≤ i0 + 2 + 2; omega, by show i0 + 2 + 2 ≤ i0 + 2 + 2; omega⟩) _ hz, hf⟩, k _ (zn_in.mpr ⟨by show i0 ≤ i0 + 2; omega, by show i0 + 2 ≤ i0 + 2 + 2; omega⟩) _ hti, ⟨ys, k _ (zn_in.mpr ⟨by show i0 ≤ i0 + 2 + 1; omega, by show i0 + 2 + 1 ≤ i0 + 2 + 2; omega⟩) _ hto, hy⟩, fun c p hp => (its c p hp).at fun o q => k _ (zn_in.mpr ⟨Nat.le_add_right _ _, ?_⟩) o q⟩
    have : c < 2 := (List.getElem?_eq_some_iff.mp hp).1
    omega
  item := by
    intro X hP hw hK hc i pins s σ H E I hf st hg
    subst hP hw hK
    have live := zp_live st
    obtain ⟨xs, ys, hqx, hqy, hi1, hi2⟩ := hg
    obtain ⟨its, rv, p, _⟩ := I.list hqx
    obtain ⟨its2, rv2, p2, _⟩ := I.list hqy
    have l1 := rv.length
    have l2 := rv2.length
    have fresh : ∀ c ∈ znCells i0 2, c ≠ s.heap.objs.size := fun c hc => by
      obtain ⟨o, e, _⟩ := live c hc
      exact Nat.ne_of_lt (Heap.lt_size e)
    have Z : ZpAt s.heap [(a, its.toArray), (b, its2.toArray)] i0 i := st.re rfl
    have two : ∀ {F : Addr × Array Value → Prop}, F (a, its.toArray) → F (b, its2.toArray) → ∀ p ∈ [(a, its.toArray), (b, its2.toArray)], F p := fun f1 f2 p hp => by
      rcases List.mem_cons.mp hp with rfl | hp
      · exact f1
      · rw [List.mem_singleton.mp hp]; exact f2
    refine zp_item (rows := [(a, its.toArray), (b, its2.toArray)]) Z (two p.isList p2.isList) (two la lb) (two (by show i < its.toArray.size; rw [List.size_toArray]; omega) (by show i < its2.toArray.size; rw [List.size_toArray]; omega)) (fun z => nomatch z) (by show 2 ≤ 1000; decide) fun h' tk Z' hT' sz out => ?_
    refine ⟨_, rfl, wpAny_pure ?_⟩
    have hx : xs[i]? = some xs[i] := List.getElem?_eq_getElem hi1
    have hy : ys[i]? = some ys[i] := List.getElem?_eq_getElem hi2
    obtain ⟨v, hv, ru⟩ := rv.get hx
    obtain ⟨v2, hv2, ru2⟩ := rv2.get hy
    have col : zcol [(a, its.toArray), (b, its2.toArray)] i = [v, v2] := by
      show [its.toArray.getD i .none, its2.toArray.getD i .none] = _
      rw [Array.getD_eq_getD_getElem?, Array.getD_eq_getD_getElem?, List.getElem?_toArray, List.getElem?_toArray, hv, hv2]; rfl
    rw [col] at hT'
    have new : ObjOk X.prog X.w (upd H s.heap.objs.size (.tup [xs[i], ys[i]])) h' s.heap.objs.size (.tup [xs[i], ys[i]]) :=
      ⟨(by show 2 ≤ sizeLine; decide), [v, v2], .cons ru (.cons ru2 .nil), ⟨_, hT', rfl, _, rfl⟩⟩
    have I1 : L2.Inv X pins σ (upd H s.heap.objs.size (.tup [xs[i], ys[i]])) { s with heap := h', toks := tk } :=
      I.turnedNew (t' := tk) (ch := znCells i0 2) (fun c o hb q => out c o (zp_apart hb) q) hf (Nat.le_refl _) new
    refine ⟨.ref s.heap.objs.size, _, I1, rfl, ⟨_, xs[i], ys[i], rfl, I.hok.fresh (Nat.le_refl _), rfl, fun l hl => ?_, fun l hl => ?_⟩, Z'.re rfl, fun c hcm => ?_⟩
    · rw [I.list_inj hl hqx]; exact hx
    · rw [I.list_inj hl hqy]; exact hy
    · rw [upd_ne (fresh c hcm)]
      exact (hf c hcm).1
  done := by
    intro X hP hw hK hc i pins s σ H E I hf st hg
    subst hP hw hK
    obtain ⟨xs, ys, hqx, hqy, hi1, hi2, hend⟩ := hg
    obtain ⟨its, rv, p, _⟩ := I.list hqx
    obtain ⟨its2, rv2, p2, _⟩ := I.list hqy
    have l1 := rv.length
    have l2 := rv2.length
    have Z : ZpAt s.heap [(a, its.toArray), (b, its2.toArray)] i0 i := st.re rfl
    have two : ∀ {F : Addr × Array Value → Prop}, F (a, its.toArray) → F (b, its2.toArray) → ∀ p ∈ [(a, its.toArray), (b, its2.toArray)], F p := fun f1 f2 p hp => by
      rcases List.mem_cons.mp hp with rfl | hp
      · exact f1
      · rw [List.mem_singleton.mp hp]; exact f2
    have fin : ∀ h' tk, ZnOut i0 2 s.heap h' → (none : Option Value) = none ∧ L2.Inv X pins σ H { s with heap := h', toks := tk } := fun h' tk out => ⟨rfl, I.turnedL (t' := tk) (ch := znCells i0 2) (fun c o hb q => out c o (zp_apart hb) q) hf⟩
    by_cases c : i = xs.length
    · exact zp_end (rows := [(a, its.toArray), (b, its2.toArray)]) (k0 := 0) (I.ok.hd hc) Z (two p.isList p2.isList) (two la lb) rfl (by show its.toArray.size ≤ i; rw [List.size_toArray]; omega) (fun k p hk _ => absurd hk (Nat.not_lt_zero _)) (by show 2 ≤ 1000; decide) fun h' tk out => fin h' tk out
    · refine zp_end (rows := [(a, its.toArray), (b, its2.toArray)]) (k0 := 1) (I.ok.hd hc) Z (two p.isList p2.isList) (two la lb) rfl (by show its2.toArray.size ≤ i; rw [List.size_toArray]; omega) (fun k p hk hp => ?_) (by show 2 ≤ 1000; decide) fun h' tk out => fin h' tk out
      obtain rfl : k = 0 := by omega
      cases hp
      show i < its.toArray.size
      rw [List.size_toArray]; omega
  self := fun A i s Q E st h => zp_iter (prog := P) (w := w) (A := A) (E := E) (Q := Q) (s := s) st h
def iZP (K : PySem.W.Frag) (ta : TA) : TI := fun σ H R => ta σ H fun vs H1 => ∃ a b xs ys, vs = [.ref a, .ref b] ∧ SqL K H1 a xs ∧ SqL K H1 b ys ∧ R (ItZP K a b) H1
theorem pi_zp {X : Cx} {e e2 : Expr} {ta : TA} {p pos px : Pos} {nm : Str} (hg : Gl X "zip") (hm : X.mg "zip" = none) (ha : PA X [e, e2] ta)
    (hs : starEach [e, e2] X.env = (false, eval e X.env) :: starEach [e2] X.env := by rfl) (hpl : (backTo pos (starEach [e2] X.env)).any (·.1) = false := by rfl) :
    PI X (.Name nm px) (.Call (.Name "zip" p) [e, e2] [] pos) (iZP X.K ta) := by
  refine ⟨fun pins s σ H R I h => Call_ (ld_blt I hg hm PyProof.Rows.boot_zip (PyProof.Rows.callWith_type1 (thn (ha.run pos pins s σ H _ I h) fun us s1 w => ?_) hs hpl))⟩
  obtain ⟨vs, H1, I1, r1, a, b, xs, ys, rfl, hqx, hqy, q⟩ := w
  obtain ⟨u1, u2, rfl, rfl, rfl⟩ : ∃ u1 u2, us = [u1, u2] ∧ u1 = Value.ref a ∧ u2 = Value.ref b := by
    cases r1 with
    | cons r rr =>
      cases rr with
      | cons r' rr =>
        cases rr
        exact ⟨_, _, rfl, r, r'⟩
  obtain ⟨its, rv, p1, _⟩ := I1.list hqx
  obtain ⟨its2, rv2, p2, _⟩ := I1.list hqy
  have la : a < s1.heap.objs.size := p1.lt
  have lb : b < s1.heap.objs.size := p2.lt
  refine zip_begins2 (begins_list a its.toArray) (begins_list b its2.toArray) p1.isList p2.isList fun h' hz hTI hTO h1 h2 hsz hk => ?_
  have Z : ZpAt h' (zpRows a b) s1.heap.objs.size 0 := by
    refine ⟨⟨.none, .bool false, hz, .inl rfl⟩, hTI, ⟨_, hTO, rfl⟩, fun k p hp => ?_⟩
    match k, hp with
    | 0, hp => cases hp; exact ⟨_, h1, rfl, rfl⟩
    | 1, hp => cases hp; exact ⟨_, h2, rfl, rfl⟩
    | k + 2, hp => simp at hp
  have I2 : L2.Inv X pins σ H1 { s1 with heap := h' } := I1.kept (t' := s1.toks) hk
  refine zp_iter (s := { s1 with heap := h' }) Z ?_
  refine ⟨_, znCells s1.heap.objs.size 2, _, ItZP X.K a b, H1, rfl, I2, turn_zp la lb, Z, fun c hc => ?_, q⟩
  have hb := (zn_in (c := c)).mp hc
  exact I1.fpOk hb.1 (I1.hok.fresh hb.1)
end Ms
namespace Ms
open PySem PySem.Spec PyProof.Rows L2
/-! ### _law_book -/
theorem PrTs.genS {K : PySem.W.Frag} {H H' : Hp} (k : ∀ a xs, SqT K H a xs → SqT K H' a xs) {vs : List V} {qs : List (Str × Int)} (p : PrTs K H vs qs) : PrTs K H' vs qs := by
  induction p with
  | nil => exact .nil
  | cons h _ ih =>
    obtain ⟨a, e, h⟩ := h
    exact .cons ⟨a, e, k _ _ h⟩ ih
theorem Fr.apart {m l l' R : Addr} {H H' : Hp} {o : HO} (f : Fr m l l' H H') (hR : H R = some o) (h : R ≠ l) : R ≠ l' := by
  rcases f.new with e | e
  · rw [e]; exact h
  · exact ne_of_none hR e
theorem SqT.unlk {K : PySem.W.Frag} {H : Hp} {L : Addr} {od : Obj} {u : List V} {o : HO} (h : H L = some (.frz od (.lst u))) {a : Addr} {xs : List V} (q : SqT K H a xs) : SqT K (upd H L o) a xs := by
  rcases q with (q | ⟨o', q⟩) | q
  · exact .inl (.inl (upd_frz h (fun _ _ z => nomatch z) q))
  · have q' : H a = some (.frz o' (.tup xs)) := q
    have nb : a ≠ L := fun z => by rw [z, h] at q'; cases q'
    have q2 : upd H L o a = some (.frz o' (.tup xs)) := by rw [upd_ne nb]; exact q'
    exact .inl (.inr ⟨o', q2⟩)
  · exact .inr q
theorem PrAt.same {K : PySem.W.Frag} {H H' : Hp} {p : Addr × (List Int × List Int)} (h : PrAt K H p) (s : Same H H') : PrAt K H' p := by
  obtain ⟨b, c, h1, h2, h3⟩ := h
  exact ⟨b, c, Same.seqT s h1, Same.seqT s h2, Same.seqT s h3⟩
theorem prq_of {K : PySem.W.Frag} {H : Hp} : ∀ zs : List (Addr × (List Int × List Int)), (∀ p ∈ zs, PrAt K H p) → Prq K H (zs.map fun p => V.ref p.1) (zs.map (·.2))
  | [], _ => .nil
  | p :: zs, h => by
    obtain ⟨b, c, h1, h2, h3⟩ := h p (List.mem_cons_self ..)
    exact .cons h1 h2 h3 (prq_of zs fun q hq => h q (List.mem_cons_of_mem _ hq))
/-- what stands in _law_book behind its first row -/
structure LbA (K : PySem.W.Frag) (H : Hp) (m l : Addr) (n : Nat) (a : Addr) (xs : List V) (qs : List (Str × Int)) (R : Addr) (us : List V) : Prop where
  M : Mch H m l n
  s : SqT K H a xs
  p : PrTs K H xs qs
  r : H R = some (.lst us)
  rq : Rwq K H us (grid qs)
  nm : R ≠ m
  nl : R ≠ l
section
variable {K : PySem.W.Frag} {H H' : Hp} {m l l' a R : Addr} {n n' : Nat} {xs us : List V} {qs : List (Str × Int)}
theorem LbA.same (S : LbA K H m l n a xs qs R us) (k : Same H H') : LbA K H' m l n a xs qs R us := ⟨S.M.same k, Same.seqT k S.s, S.p.same k, k _ _ S.r, S.rq.same k, S.nm, S.nl⟩
theorem LbA.step (S : LbA K H m l n a xs qs R us) (f : Fr m l l' H H') (M' : Mch H' m l' n') : LbA K H' m l' n' a xs qs R us :=
  have k := S.M.step f
  ⟨M', k.tup S.s, S.p.genS fun _ _ h => k.tup h, f.keep _ _ S.r S.nm S.nl, S.rq.gen fun _ _ h => k.tup h, S.nm, f.apart S.r S.nl⟩
theorem LbA.unlock {L : Addr} {od : Obj} {u : List V} {o : HO} (S : LbA K H m l n a xs qs R us) (h : H L = some (.frz od (.lst u))) (nR : R ≠ L) : LbA K (upd H L o) m l n a xs qs R us :=
  ⟨Mch.unlock h S.M, SqT.unlk h S.s, S.p.genS fun _ _ q => SqT.unlk h q, by rw [upd_ne nR]; exact S.r, S.rq.gen fun _ _ q => SqT.unlk h q, S.nm, S.nl⟩
theorem LbA.bump {i : Nat} (S : LbA K H m l (n + i + 1) a xs qs R us) : LbA K H m l (n + (i + 1)) a xs qs R us := by rw [← Nat.add_assoc]; exact S
end
/-- the pairs of a drawn book -/
def PrsOk (qs : List (Str × Int)) (es : List (List Int × List Int)) : Prop := es.Sublist (nearL (grid qs) (grid qs)) ∨ es.Sublist (pairsL (grid qs) (grid qs)) ∨
  ∃ zs : List (Addr × (List Int × List Int)), es = (sortP zs).map (·.2) ∧ (zs.map (·.2)).Nodup ∧ (∀ p ∈ zs, p.2.1 ∈ grid qs ∧ p.2.2 ∈ grid qs ∧ p.2.1 ≠ p.2.2) ∧ zs.length ≤ 4
/-- a drawn book, told: two tuples -/
def BkRes (K : PySem.W.Frag) (H' : Hp) (qs : List (Str × Int)) (pb pp : Addr) : Prop := ∃ (bs : List (List Int)) (es : List (List Int × List Int)) (ws ws' : List V), H' pb = some (.tup ws) ∧ Rwq K H' ws bs ∧ bs.Sublist (grid qs) ∧ H' pp = some (.tup ws') ∧ Prq K H' ws' es ∧ PrsOk qs es
section
variable {P : Program} {w : World} {K : PySem.W.Frag} {mg : Str → Option Value} {base : Heap} {fN fM fLs fLn fLp fPk : Addr}
abbrev NLb : List Str := ["m", "spots", "rows", "way", "begin", "line", "k", "pair"]
theorem scLb : FnScope NLb ["m", "spots"] (defScope sLBook) := ⟨rfl, rfl, rfl, by decide +kernel, rfl, by decide +kernel, by decide +kernel⟩
def spLBook (K : PySem.W.Frag) : Sp := fun vs H Q _ => ∃ (m l a : Addr) (n : Nat) (xs : List V) (qs : List (Str × Int)), vs = [.ref m, .ref a] ∧ Mch H m l n ∧ n < 500000 ∧ SqT K H a xs ∧ PrTs K H xs qs ∧ 1 ≤ qs.length ∧ qs.length ≤ 3 ∧ (∀ q ∈ qs, 1 ≤ q.2 ∧ q.2 ≤ 3) ∧ (grid qs).length ≤ 12 ∧ 1 ≤ (grid qs).length ∧
  ∀ p pb pp l' H', H' p = some (.tup [.ref pb, .ref pp]) → BkRes K H' qs pb pp → Mch H' m l' (n + 200) → Fr m l l' H H' → Q (.ref p) H'
def rLenK (K : PySem.W.Frag) : List V → Hp → VK → Prop := fun xs H Q => ∃ x n, xs = [x] ∧ LenV K x H n ∧ Q (.int (n : Nat)) H
structure TxtLb (mg : Str → Option Value) : Prop where
  zip : mg "zip" = none
  sum : mg "sum" = none
  abs : mg "abs" = none
  sorted : mg "sorted" = none
  set : mg "set" = none
  range : mg "range" = none
  len : mg "len" = none
theorem lbook_tail {f : Addr} {qual : Str} {cdv : Value} {A : Around} {outer : List Env} {s : Shared} {H0 : Hp} {E : XK} {fdN fdLn fdLp fdPk : FuncData} (T : TxtS mg fN fM) (TB : TxtLb mg) (FN : Fun K "_law_next" "_law_next" sNext fN fdN) (bN : Binds K fdN ["m", "many"] []) (GN : FnOk P w K mg base CX0 1 fN fdN ["m", "many"] spNext)
    (gLn : mg "_law_near" = some (.ref fLn)) (FLn : Fun K "_law_near" "_law_near" sLNear fLn fdLn) (bLn : Binds K fdLn ["spots"] []) (GLn : FnOk P w K mg base CX0 2 fLn fdLn ["spots"] (spLNear K))
    (gLp : mg "_law_pairs" = some (.ref fLp)) (FLp : Fun K "_law_pairs" "_law_pairs" sLPairs fLp fdLp) (bLp : Binds K fdLp ["spots"] []) (GLp : FnOk P w K mg base CX0 2 fLp fdLp ["spots"] (spLPairs K))
    (gPk : mg "_law_picked" = some (.ref fPk)) (FPk : Fun K "_law_picked" "_law_picked" sPicked fPk fdPk) (bPk : Binds K fdPk ["m", "some", "part"] []) (GPk : FnOk P w K mg base CX0 2 fPk fdPk ["m", "some", "part"] spPicked)
    (hr : Room 2 (A.deeper (envOfC qual (defScope sLBook) s.heap.objs.size f cdv))) :
    ∃ t, PSs (cxOf CX0 P w K mg base NLb qual (defScope sLBook) f cdv A outer s H0 E).nox ((defBody sLBook).drop 2) t ∧ ∀ (D : Ends) (H : Hp) (m l a : Addr) (n : Nat) (xs : List V) (qs : List (Str × Int)) (R : Addr) (us : List V) (y : Int) (pb : Addr) (ws : List V) (bs : List (List Int)),
      LbA K H m l n a xs qs R us → n < 550000 → qs.length ≤ 3 → (∀ q ∈ qs, 1 ≤ q.2 ∧ q.2 ≤ 3) → (grid qs).length ≤ 12 → 1 ≤ (grid qs).length → 0 ≤ y → y < 4 → H pb = some (.tup ws) → Rwq K H ws bs → bs.Sublist (grid qs) →
      (∀ p pp l' H', H' p = some (.tup [.ref pb, .ref pp]) → BkRes K H' qs pb pp → Mch H' m l' (n + 150) → Fr m l l' H H' → D.rt (.ref p) H') → t D [some (.ref m), some (.ref a), some (.ref R), some (.int y), some (.ref pb), none, none, none] H := by
  have hr1 : Room 1 (A.deeper (envOfC qual (defScope sLBook) s.heap.objs.size f cdv)) := hr.mono (by decide)
  refine ⟨_, pss_cons (ps_if (pt_cmpR op_eq (pv 3) pe_int (nomark _)) (pss_one (ps_ret (pe_tup (pa_cons (pv 4) (pa_cons (pe_callTy call_tuple_of (by rfl) T.tuple (by decide +kernel) (pa_cons (pe_call GLn hr (by rfl) gLn FLn.kp bLn .nil pass0 (pa_cons (pv 1) pa_nil)) pa_nil)) pa_nil))))) pss_nil)
    (pss_cons (ps_if (pt_cmpR op_eq (pv 3) pe_int (nomark _)) (pss_one (ps_ret (pe_tup (pa_cons (pv 4) (pa_cons (pe_call GPk hr (by rfl) gPk FPk.kp bPk .nil pass0 (pa_cons (pv 0) (pa_cons (pe_call GLp hr (by rfl) gLp FLp.kp bLp .nil pass0 (pa_cons (pv 1) pa_nil)) (pa_cons pe_int pa_nil)))) pa_nil))))) pss_nil)
    (pss_cons (ps_if (pt_cmpR op_eq (pv 3) pe_int (nomark _)) (pss_one (ps_ret (pe_tup (pa_cons (pv 4) (pa_cons (pe_call GPk hr (by rfl) gPk FPk.kp bPk .nil pass0 (pa_cons (pv 0) (pa_cons (pe_call GLn hr (by rfl) gLn FLn.kp bLn .nil pass0 (pa_cons (pv 1) pa_nil)) (pa_cons pe_int pa_nil)))) pa_nil))))) pss_nil)
    (pss_cons (ps_setLc (i := 5) (own := [("k", 6)]) (g := gName 6) (by rfl) scLb.nd rfl rfl (sw_true rfl rfl rfl (by decide +kernel)) (pi_range1 (by rfl) TB.range (pa_cons (pe_op op_add pe_int (pe_call GN hr1 (by rfl) T.next FN.kp bN .nil pass0 (pa_cons (pv 0) (pa_cons pe_int pa_nil)))) pa_nil)) (blkOk_by (own := [("k", 6)]) (N := NLb) (sc := defScope sLBook) (by decide +kernel))
      (fun _ _ _ _ _ => pg_name (i := 6) scLb.nd rfl (by first | exact Or.inl rfl | exact Or.inr rfl)) (fun _ _ _ _ _ => pts_nil)
      (fun _ _ _ _ _ => pe_ix (show IxR _ (rIxL K) from ix_list) (pv 2) (pe_lock (pe_call GN hr1 (by rfl) T.next FN.kp bN .nil pass0 (pa_cons (pv 0) (pa_cons (pe_callB (show CallR _ (.builtin "len") (rLenK K) from call_len) (by rfl) TB.len PySem.boot_len (pa_cons (pv 2) pa_nil)) pa_nil)))) (fun _ _ => rfl)))
    (pss_one (ps_ret (pe_tup (pa_cons (pv 4) (pa_cons (pe_callTy call_tuple_of (by rfl) T.tuple (by decide +kernel) (pa_cons (pe_callB (show CallR _ (.builtin "sorted") (rSortedP K P w) from by exact cr_sortedP (by rfl) (by exact hr.units)) (by rfl) TB.sorted (by decide +kernel) (pa_cons
      (pe_callTy (show CallR _ (.type "set") (rSetOfP K P w) from by exact cr_setOfP (by rfl) (by exact hr.units)) (by rfl) TB.set (by decide +kernel) (pa_cons
        (pe_lc (own := [("pair", 7)]) (g := gName 7) (by rfl) scLb.nd (pi_zp (by rfl) TB.zip (pa_cons (pv 5) (pa_cons (pe_slice sl_list (pv 5) (po_some pe_int) po_none) pa_nil))) (blkOk_by (own := [("pair", 7)]) (N := NLb) (sc := defScope sLBook) (by decide +kernel))
          (fun _ _ _ _ _ => pg_name (i := 7) scLb.nd rfl (by first | exact Or.inl rfl | exact Or.inr rfl))
          (fun _ _ _ _ _ => pts_one (pt_cmpR (show OpR _ (compareOp .NotEq) (rNeD K) from op_neD (by exact hr.units)) (pe_ix (show IxR _ (rIxT K) from ix_tup) (pv 7) pe_int (fun _ _ => rfl)) (pe_ix (show IxR _ (rIxT K) from ix_tup) (pv 7) pe_int (fun _ _ => rfl)) (nomark _)))
          (fun _ _ _ _ _ => pv 7)) pa_nil)) pa_nil)) pa_nil)) pa_nil)))))))), ?_⟩
  intro D H m l a n xs qs R us y pb ws bs S hn q3 bq g12 g1 y0 y4 hpb rb sb q
  have two : ∀ {pp : Addr} {H1 : Hp} {l1 : Addr} {k : Nat} {ws' : List V} {es : List (List Int × List Int)}, (∀ b ys, H b = some (.tup ys) → H1 b = some (.tup ys)) → (∀ b ys, SqT K H b ys → SqT K H1 b ys) → Mch H1 m l1 k → k ≤ n + 150 → Fr m l l1 H H1 → H1 pp = some (.tup ws') → Prq K H1 ws' es → PrsOk qs es →
      ∀ p, H1 p = none → D.rt (.ref p) (upd H1 p (.tup [.ref pb, .ref pp])) := by
    intro pp H1 l1 k ws' es kt ks M1 hk f1 hpp pq ok p hp
    have sp : Same H1 (upd H1 p (.tup [.ref pb, .ref pp])) := Same.upd hp
    exact q p pp l1 _ upd_same ⟨bs, es, ws, ws', sp _ _ (kt _ _ hpb), (rb.gen ks).same sp, sb, sp _ _ hpp, pq.same sp, ok⟩ ((M1.mono hk).same sp) (f1.junk hp)
  have len2 : ∀ {es : List (List Int × List Int)} {ws' : List V} {H1 : Hp}, Prq K H1 ws' es → es.length ≤ (grid qs).length * (grid qs).length → ws'.length ≤ 144 := fun {es ws' H1} p h => by
    have := p.len
    have h3 : (grid qs).length * (grid qs).length ≤ 12 * 12 := Nat.mul_le_mul g12 g12
    omega
  refine ⟨_, rfl, rfl, _, rfl, ite_b (fun _ => ?_) (fun _ => ?_)⟩
  · refine ⟨_, rfl, _, rfl, a, xs, qs, rfl, S.s, S.p, q3, bq, g12, fun L vs' H1 hL s1 gL pq => ⟨L, vs', rfl, .inl ⟨SqL.of gL, fun pp hpp => ?_⟩⟩⟩
    have s2 : Same H1 (upd H1 pp (.tup vs')) := Same.upd hpp
    refine ⟨(by show 2 ≤ sizeLine; decide), fun p hp => ?_⟩
    have s12 := s1.trans s2
    exact two (fun b ys h => s12 _ _ h) (fun b ys h => Same.seqT s12 h) (S.M.same s12) (by omega) ((Fr.refl S.M).trail s12) upd_same (pq.same s2) (.inl (List.Sublist.refl _)) p hp
  refine ⟨_, rfl, rfl, _, rfl, ite_b (fun _ => ?_) (fun _ => ?_)⟩
  · refine ⟨_, rfl, _, rfl, _, rfl, a, xs, qs, rfl, S.s, S.p, q3, bq, g12, fun L vs' H1 hL s1 gL pq => ?_⟩
    have ne := S.M.ne hL
    refine ⟨m, l, L, n, vs', 1, rfl, S.M.same s1, by omega, gL, ne.1, ne.2, by have := len2 pq (pairsL_le _ _); omega, fun pp sub l2 H2 gpp sub' M2 f2 => ?_⟩
    obtain ⟨es, se, pe⟩ := pq.sub sub'
    have f := Fr.lead s1 f2
    have k := S.M.step f
    refine ⟨(by show 2 ≤ sizeLine; decide), fun p hp => ?_⟩
    exact two (fun b ys h => f.keep _ _ h (S.M.nm h (fun _ z => nomatch z)) (S.M.nl h (fun _ z => nomatch z))) (fun b ys h => k.tup h) M2 (by have := len2 pq (pairsL_le _ _); omega) f gpp (pe.gen fun _ _ h => ((S.M.same s1).step f2).tup h) (.inr (.inl se)) p hp
  refine ⟨_, rfl, rfl, _, rfl, ite_b (fun _ => ?_) (fun _ => ?_)⟩
  · refine ⟨_, rfl, _, rfl, _, rfl, a, xs, qs, rfl, S.s, S.p, q3, bq, g12, fun L vs' H1 hL s1 gL pq => ?_⟩
    have ne := S.M.ne hL
    refine ⟨m, l, L, n, vs', 2, rfl, S.M.same s1, by omega, gL, ne.1, ne.2, by have := len2 pq (nearL_le _ _); omega, fun pp sub l2 H2 gpp sub' M2 f2 => ?_⟩
    obtain ⟨es, se, pe⟩ := pq.sub sub'
    have f := Fr.lead s1 f2
    have k := S.M.step f
    refine ⟨(by show 2 ≤ sizeLine; decide), fun p hp => ?_⟩
    exact two (fun b ys h => f.keep _ _ h (S.M.nm h (fun _ z => nomatch z)) (S.M.nl h (fun _ z => nomatch z))) (fun b ys h => k.tup h) M2 (by have := len2 pq (nearL_le _ _); omega) f gpp (pe.gen fun _ _ h => ((S.M.same s1).step f2).tup h) (.inl se) p hp
  refine ⟨_, rfl, m, l, n, 3, rfl, S.M, by omega, by decide, by decide, fun c l1 H1 c0 c3 M1 f1 => ?_⟩
  have S1 := S.step f1 M1
  refine ⟨_, _, rfl, rfl, _, rfl, by omega, by omega, fun Dn hDn => ?_⟩
  have lg : (2 + c).toNat ≤ 4 := by omega
  have nRD : R ≠ Dn := ne_of_none S1.r hDn
  have h0D : H Dn = none := f1.free hDn
  have lus : us.length = (grid qs).length := S.rq.len
  obtain ⟨od0, e0⟩ : ∃ od0 : Obj, od0 = { cls := .none, data := .plain } := ⟨_, rfl⟩
  refine lc_it (walk_range (lo := 0) (n := (2 + c).toNat)) (fun i H3 => ∃ (Hb : Hp) (od : Obj) (u ws2 : List V) (l2 : Addr) (ls : List (List Int)), H3 = upd Hb Dn (.lst ws2) ∧ Hb Dn = some (.frz od (.lst u)) ∧ LbA K Hb m l2 (n + 1 + i) a xs qs R us ∧ Fr m l l2 H Hb ∧ Rwq K Hb ws2 ls ∧ (∀ r ∈ ls, r ∈ grid qs) ∧ ls.length = i)
    ⟨upd H1 Dn (.frz od0 (.lst [])), od0, [], [], l1, [], by rw [upd_upd], upd_same, S1.same (Same.upd hDn), f1.junk hDn, .nil, (fun _ h => nomatch h), rfl⟩ (fun _ _ _ _ => trivial) ?_ ?_
  · rintro i x H3 H4 hi ⟨Hb, od, u, ws2, l2, ls, rfl, g, S3, f3, rq2, all2, ll2⟩ ⟨rfl, rfl⟩
    have lw : ws2.length = i := by rw [rq2.len]; exact ll2
    refine ⟨rfl, tyes ?_⟩
    refine ⟨_, rfl, Dn, .lst ws2, upd_same, trivial, fun od' => ?_⟩
    rw [upd_upd]
    have S4 : LbA K (upd Hb Dn (.frz od' (.lst ws2))) m l2 (n + 1 + i) a xs qs R us := S3.unlock g nRD
    have f4 := f3.relock (o := .frz od' (.lst ws2)) h0D
    refine ⟨_, rfl, _, rfl, _, _, rfl, .inl ⟨us, SqL.of S4.r, rfl⟩, m, l2, n + 1 + i, _, rfl, S4.M, by omega, by omega, by omega, fun r l5 H5 r0 rk M5 f5 => ?_⟩
    have g5 : H5 Dn = some (.frz od' (.lst ws2)) := f5.keep _ _ upd_same (S4.M.nm upd_same (fun _ z => nomatch z)) (S4.M.nl upd_same (fun _ z => nomatch z))
    have S5 := S4.step f5 M5
    have k5 := S4.M.step f5
    obtain ⟨j, rfl⟩ : ∃ j : Nat, r = (j : Int) := ⟨r.toNat, by omega⟩
    have hj : us[j]? = some (us[j]'(by omega)) := List.getElem?_eq_getElem (by omega)
    obtain ⟨b, row, eb, hrow, hb⟩ := S5.rq.get hj
    refine ⟨g5, R, us, _, _, rfl, rfl, SqL.of (by rw [upd_ne nRD]; exact S5.r), atI_nat hj, ws2, upd_same, small1000 (by omega), H5, od', _, ws2 ++ [us[j]'(by omega)], l5, ls ++ [row], by rw [upd_upd], g5, S5.bump, f4.trans f5, ?_, ?_, ?_⟩
    · rw [eb]
      exact ((rq2.gen fun _ _ h => SqT.unlk g h).gen fun _ _ h => k5.tup h).snoc hb
    · intro r hr
      rcases List.mem_append.mp hr with hr | hr
      · exact all2 r hr
      · rw [List.mem_singleton] at hr
        subst hr
        exact List.mem_of_getElem? hrow
    · rw [List.length_append, ll2]; rfl
  rintro H3 ⟨Hb, od, u, ws2, l2, ls, rfl, g, S3, f3, rq2, all2, ll2⟩
  have lw : ws2.length = (2 + c).toNat := by rw [rq2.len]; exact ll2
  have Sf : LbA K (upd Hb Dn (.lst ws2)) m l2 (n + 1 + (2 + c).toNat) a xs qs R us := S3.unlock g nRD
  have ff : Fr m l l2 H (upd Hb Dn (.lst ws2)) := f3.relock h0D
  have rq3 : Rwq K (upd Hb Dn (.lst ws2)) ws2 ls := rq2.gen fun _ _ h => SqT.unlk g h
  have g3 : (upd Hb Dn (.lst ws2)) Dn = some (.lst ws2) := upd_same
  generalize upd Hb Dn (.lst ws2) = H3 at Sf ff rq3 g3
  refine ⟨_, rfl, _, rfl, _, rfl, _, rfl, Dn, ws2, rfl, SqL.of g3, fun p4 hp4 => ?_⟩
  have s4 : Same H3 (upd H3 p4 (.lst (cutV ws2 (some 1) none))) := Same.upd hp4
  have cut : cutV ws2 (some 1) none = ws2.drop 1 := cut_from (i := 1) (by omega)
  rw [cut] at s4
  rw [cut]
  have g4 : (upd H3 p4 (.lst (ws2.drop 1))) p4 = some (.lst (ws2.drop 1)) := upd_same
  generalize upd H3 p4 (.lst (ws2.drop 1)) = H4 at s4 g4
  have g3' := s4 _ _ g3
  have rq4 := rq3.same s4
  refine ⟨Dn, p4, ws2, ws2.drop 1, rfl, SqL.of g3', SqL.of g4, fun D2 hD2 => ?_⟩
  refine lc_it (walk_zp rfl) (fun i H5 => Same H4 H5 ∧ ∃ zs : List (Addr × (List Int × List Int)), H5 D2 = some (.lst (zs.map fun p => V.ref p.1)) ∧ (∀ p ∈ zs, PrAt K H5 p ∧ p.2.1 ∈ grid qs ∧ p.2.2 ∈ grid qs ∧ p.2.1 ≠ p.2.2) ∧ zs.length ≤ i)
    ⟨Same.upd hD2, [], upd_same, (fun _ h => nomatch h), Nat.le_refl _⟩ (fun i H5 _ ⟨s5, _⟩ => ⟨SqL.of (s5 _ _ g3'), SqL.of (s5 _ _ g4)⟩) ?_ ?_
  · rintro i x H5 H6 hi ⟨s5, zs, g5, pa, lz⟩ ⟨T6, v1, v2, rfl, hT, rfl, hv1, hv2⟩
    have s6 : Same H5 (upd H5 T6 (.tup [v1, v2])) := Same.upd hT
    have gT : (upd H5 T6 (.tup [v1, v2])) T6 = some (.tup [v1, v2]) := upd_same
    generalize upd H5 T6 (.tup [v1, v2]) = H6 at s6 gT
    have li : i < ws2.length - 1 := by
      have : i < min ws2.length (ws2.drop 1).length := hi
      rw [List.length_drop] at this
      omega
    have hv2 : ws2[i + 1]? = some v2 := by
      have e : (ws2.drop 1)[i]? = some v2 := hv2
      rw [List.getElem?_drop, Nat.add_comm] at e
      exact e
    obtain ⟨b1, r1, e1, hr1, hb1⟩ := rq4.get hv1
    obtain ⟨b2, r2, e2, hr2, hb2⟩ := rq4.get hv2
    subst e1
    subst e2
    have s46 := s5.trans s6
    have hb1 := Same.seqT s46 hb1
    have hb2 := Same.seqT s46 hb2
    refine ⟨rfl, ?_⟩
    refine ⟨_, rfl, T6, _, 0, _, rfl, rfl, SqT.of gT, atI_nat (j := 0) rfl, ?_⟩
    refine ⟨_, rfl, T6, _, 1, _, rfl, rfl, SqT.of gT, atI_nat (j := 1) rfl, ?_⟩
    refine ⟨rowD r1, rowD r2, Dq.dp (m := m) (l := l) _ _ (.tup hb1 (ints_dq _)) (noDi_ints _), Dq.dp (m := m) (l := l) _ _ (.tup hb2 (ints_dq _)) (noDi_ints _), shaped_tints _, shaped_tints _, ?_⟩
    rw [eqv_rowD]
    have k6 : ∀ p ∈ zs, PrAt K H6 p ∧ p.2.1 ∈ grid qs ∧ p.2.2 ∈ grid qs ∧ p.2.1 ≠ p.2.2 := fun p hp => ⟨(pa p hp).1.same s6, (pa p hp).2⟩
    refine ⟨_, rfl, ite_b (fun c => ?_) (fun c => ?_)⟩
    rotate_left
    · exact ⟨s46, zs, s6 _ _ g5, k6, by omega⟩
    · have c12 : r1 ≠ r2 := by simpa using c
      have lz' : (zs.map fun p => V.ref p.1).length ≤ 1000 := by rw [List.length_map]; omega
      refine ⟨_, rfl, _, s6 _ _ g5, small1000 lz', ?_⟩
      refine ⟨fun b o hb => ?_, zs ++ [(T6, (r1, r2))], ?_, ?_, ?_⟩
      · rw [upd_ne (ne_of_none hb hD2)]; exact s46 _ _ hb
      · rw [upd_same, List.map_append]; rfl
      · intro p hp
        have kl : ∀ {q : Addr × (List Int × List Int)}, PrAt K H6 q → PrAt K (upd H6 D2 (.lst ((zs.map fun p => V.ref p.1) ++ [V.ref T6]))) q := fun {q} h => by
          obtain ⟨b, c, h1, h2, h3⟩ := h
          exact ⟨b, c, SqT.upL (s6 _ _ g5) h1, SqT.upL (s6 _ _ g5) h2, SqT.upL (s6 _ _ g5) h3⟩
        rcases List.mem_append.mp hp with hp | hp
        · exact ⟨kl (k6 p hp).1, (k6 p hp).2⟩
        · rw [List.mem_singleton] at hp
          subst hp
          exact ⟨kl ⟨b1, b2, SqT.of gT, hb1, hb2⟩, all2 _ (List.mem_of_getElem? hr1), all2 _ (List.mem_of_getElem? hr2), c12⟩
      · rw [List.length_append]
        show zs.length + 1 ≤ i + 1
        omega
  rintro H5 ⟨s5, zs, g5, pa, lz⟩
  have few : zs.length ≤ 4 := by
    rw [List.length_drop] at lz
    omega
  refine ⟨D2, zs, rfl, SqL.of g5, fun p hp => (pa p hp).1, few, fun A6 L hA sub1 sub2 => ?_⟩
  have s6 : Same H5 (upd H5 A6 (SetPO P w A6 L)) := Same.upd hA
  have paL : ∀ p ∈ L, PrAt K (upd H5 A6 (SetPO P w A6 L)) p ∧ p.2.1 ∈ grid qs ∧ p.2.2 ∈ grid qs ∧ p.2.1 ≠ p.2.2 := fun p hp => ⟨(pa p (sub1 p hp)).1.same s6, (pa p (sub1 p hp)).2⟩
  refine ⟨A6, L, rfl, upd_same, fun p hp => (paL p hp).1, fun L1 p7 pm nd few1 hp7 => ?_⟩
  have s7 : Same (upd H5 A6 (SetPO P w A6 L)) (upd (upd H5 A6 (SetPO P w A6 L)) p7 (.lst ((sortP L1).map fun q => V.ref q.1))) := Same.upd hp7
  refine ⟨p7, _, rfl, .inl ⟨SqL.of upd_same, fun pp hpp => ?_⟩⟩
  have s8 := Same.upd (o := .tup ((sortP L1).map fun q => V.ref q.1)) hpp
  have s38 := s4.trans (s5.trans (s6.trans (s7.trans s8)))
  refine ⟨(by show 2 ≤ sizeLine; decide), fun p hp => ?_⟩
  exact two (fun b ys h => s38 _ _ (ff.keep _ _ h (S.M.nm h (fun _ z => nomatch z)) (S.M.nl h (fun _ z => nomatch z)))) (fun b ys h => Same.seqT s38 ((S.M.step ff).tup h)) (Sf.M.same s38) (by omega) (ff.trail s38) upd_same
    (prq_of _ fun p hp => ((paL p (pm.mem_iff.mp (List.mem_mergeSort.mp hp))).1.same (s7.trans s8))) (.inr (.inr ⟨L1, rfl, nd, fun p hp => (paL p (pm.mem_iff.mp hp)).2, few1⟩)) p hp
theorem ok_lbook {f : Addr} {fd fdN fdLs fdLn fdLp fdPk : FuncData} (F : Fun K "_law_book" "_law_book" sLBook f fd) (T : TxtS mg fN fM) (TB : TxtLb mg) (FN : Fun K "_law_next" "_law_next" sNext fN fdN) (bN : Binds K fdN ["m", "many"] [])
    (gLs : mg "_law_standings" = some (.ref fLs)) (FLs : Fun K "_law_standings" "_law_standings" sStandings fLs fdLs) (bLs : Binds K fdLs ["spots"] []) (gLn : mg "_law_near" = some (.ref fLn)) (FLn : Fun K "_law_near" "_law_near" sLNear fLn fdLn) (bLn : Binds K fdLn ["spots"] [])
    (gLp : mg "_law_pairs" = some (.ref fLp)) (FLp : Fun K "_law_pairs" "_law_pairs" sLPairs fLp fdLp) (bLp : Binds K fdLp ["spots"] []) (gPk : mg "_law_picked" = some (.ref fPk)) (FPk : Fun K "_law_picked" "_law_picked" sPicked fPk fdPk) (bPk : Binds K fdPk ["m", "some", "part"] []) :
    FnOk P w K mg base CX0 3 f fd ["m", "spots"] (spLBook K) := by
  have GN : FnOk P w K mg base CX0 1 fN fdN ["m", "many"] spNext := ok_next FN T.toTxt
  have GLs : FnOk P w K mg base CX0 1 fLs fdLs ["spots"] (spLStand K) := ok_lstand FLs T.toTxtN
  have GLn : FnOk P w K mg base CX0 2 fLn fdLn ["spots"] (spLNear K) := ok_lnear FLn T.toTxtN TB.zip TB.sum TB.abs gLs FLs bLs
  have GLp : FnOk P w K mg base CX0 2 fLp fdLp ["spots"] (spLPairs K) := ok_lpairs FLp T.toTxtN gLs FLs bLs
  have GPk : FnOk P w K mg base CX0 2 fPk fdPk ["m", "some", "part"] spPicked := ok_picked FPk T FN bN
  refine F.ok scLb (fun vs H Q E h => ?_) (fun cdv A outer s H vs Q E hr h => ?_)
  · obtain ⟨m, l, a, n, xs, qs, rfl, _⟩ := h
    rfl
  obtain ⟨m, l, a, n, xs, qs, rfl, M, hn, ha, pr, q1, q3, bq, g12, g1, q⟩ := h
  have hr1 : Room 1 _ := hr.mono (by decide)
  obtain ⟨tT, dT, zT⟩ := lbook_tail (s := s) (H0 := H) (E := E) (qual := "_law_book") (cdv := cdv) (A := A) (outer := outer) (f := f) T TB FN bN GN gLn FLn bLn GLn gLp FLp bLp GLp gPk FPk bPk GPk hr
  refine ⟨_, pss_cons (ps_asg (pe_tup (pa_cons (pe_call GLs hr1 (by rfl) gLs FLs.kp bLs .nil pass0 (pa_cons (pv 1) pa_nil)) (pa_cons (pe_call GN hr1 (by rfl) T.next FN.kp bN .nil pass0 (pa_cons (pv 0) (pa_cons pe_int pa_nil))) pa_nil)))
      (pg_tup rfl (pgs_cons (pg_name (i := 2) scLb.nd rfl (Or.inr rfl)) (pgs_cons (pg_name (i := 3) scLb.nd rfl (Or.inl rfl)) pgs_nil))))
    (pss_cons (ps_set (i := 4) scLb.nd rfl (Or.inl rfl) (pe_ifExp (pt_cmpR op_eq (pe_call GN hr1 (by rfl) T.next FN.kp bN .nil pass0 (pa_cons (pv 0) (pa_cons pe_int pa_nil))) pe_int (nomark _)) (pe_callTy call_tuple_of (by rfl) T.tuple (by decide +kernel) (pa_cons (pv 2) pa_nil))
        (pe_call GPk hr (by rfl) gPk FPk.kp bPk .nil pass0 (pa_cons (pv 0) (pa_cons (pv 2) (pa_cons pe_int pa_nil)))))) dT), ?_⟩
  refine ⟨_, rfl, a, xs, qs, rfl, ha, pr, q3, bq, fun R vs' H1 hR s1 gR rq => ?_⟩
  have neR := M.ne hR
  have S1 : LbA K H1 m l n a xs qs R vs' := ⟨M.same s1, Same.seqT s1 ha, pr.same s1, gR, rq, neR.1, neR.2⟩
  refine ⟨_, rfl, m, l, n, 4, rfl, S1.M, by omega, by decide, by decide, fun y l2 H2 y0 y4 M2 f2 => ?_⟩
  have S2 := S1.step f2 M2
  refine ⟨(by show 2 ≤ sizeLine; decide), fun t ht => ?_⟩
  have s3 : Same H2 (upd H2 t (.tup [.ref R, .int y])) := Same.upd ht
  have S3 := S2.same s3
  have f3 := (Fr.lead s1 f2).trail s3
  have gt : (upd H2 t (.tup [.ref R, .int y])) t = some (.tup [.ref R, .int y]) := upd_same
  generalize upd H2 t (.tup [.ref R, .int y]) = H3 at s3 S3 f3 gt
  refine ⟨t, _, rfl, SqT.of gt, rfl, ?_⟩
  refine ⟨_, _, rfl, _, _, rfl, rfl, ?_⟩
  refine ⟨_, rfl, m, l2, n + 1, 3, rfl, S3.M, by omega, by decide, by decide, fun d l4 H4 d0 d3 M4 f4 => ?_⟩
  have S4 := S3.step f4 M4
  have f04 := f3.trans f4
  refine ⟨rfl, _, rfl, ite_b (fun _ => ?_) (fun _ => ?_)⟩
  · refine ⟨_, rfl, R, vs', rfl, .inl ⟨SqL.of S4.r, fun b hb => ?_⟩⟩
    have s5 : Same H4 (upd H4 b (.tup vs')) := Same.upd hb
    have S5 := S4.same s5
    have f5 := f04.trail s5
    refine zT _ _ m l4 a (n + 1 + 1) xs qs R vs' y b vs' (bs := grid qs) S5 (by omega) q3 bq g12 g1 y0 y4 upd_same S5.rq (List.Sublist.refl _) fun p pp l' H' gp br M' f' => ?_
    exact q p b pp l' H' gp br (M'.mono (by omega)) (f5.trans f')
  · refine ⟨_, rfl, _, rfl, m, l4, R, n + 1 + 1, vs', 2, rfl, S4.M, by omega, S4.r, S4.nm, S4.nl, by have := S4.rq.len; omega, fun b sub l5 H5 gb sub' M5 f5 => ?_⟩
    have S5 := S4.step f5 M5
    have f05 := f04.trans f5
    obtain ⟨bs, sbs, rbs⟩ := S4.rq.sub sub'
    refine zT _ _ m l5 a _ xs qs R vs' y b sub (bs := bs) S5 (by have := S4.rq.len; omega) q3 bq g12 g1 y0 y4 gb (rbs.gen fun _ _ h => (S4.M.step f5).tup h) sbs fun p pp l' H' gp br M' f' => ?_
    exact q p b pp l' H' gp br (M'.mono (by have := S4.rq.len; omega)) (f05.trans f')
end
end Ms
namespace Ms
open PySem PySem.Spec PyProof.Rows L2
/-! ### how great rows and pairs are -/
theorem row_gl : ∀ r : List Int, (∀ i ∈ r, 0 ≤ i ∧ i ≤ 3) → Gl' big (3 * r.length) 0 (r.map PyData.int)
  | [], _ => ⟨(fun d h => nomatch h), Nat.le_refl _, (fun d h => nomatch h)⟩
  | i :: r, h => by
    obtain ⟨h0, h3⟩ := h i (List.mem_cons_self ..)
    have c : i = 0 ∨ i = 1 ∨ i = 2 ∨ i = 3 := by omega
    have g1 : Gd big 2 0 (.int i) := by rcases c with rfl | rfl | rfl | rfl <;> exact ⟨by decide, by decide, by decide⟩
    exact ((Gl'.one g1).app (row_gl r fun x hx => h x (List.mem_cons_of_mem _ hx))).mono (Nat.le_refl _) (by simp only [List.length_cons]; omega) (Nat.le_refl _)
theorem row_gd {r : List Int} (h : ∀ i ∈ r, 0 ≤ i ∧ i ≤ 3) (l : r.length ≤ 3) : Gd big 9 1 (rowD r) := (Gd.tup (row_gl r h)).mono (Nat.le_refl _) (by omega) (Nat.le_refl _)
/-- rows of the grid -/
def smallR (r : List Int) : Prop := (∀ i ∈ r, 0 ≤ i ∧ i ≤ 3) ∧ r.length ≤ 3
theorem smallR.gd {r : List Int} (h : smallR r) : Gd big 9 1 (rowD r) := row_gd h.1 h.2
theorem smallR.pair {r s : List Int} (h : smallR r) (k : smallR s) : Gd big 20 2 (pairD r s) := (Gd.tup ((Gl'.one h.gd).app (Gl'.one k.gd))).mono (Nat.le_refl _) (by omega) (Nat.le_refl _)
theorem rows_gl : ∀ rs : List (List Int), (∀ r ∈ rs, smallR r) → Gl' big (10 * rs.length) 1 (rs.map rowD)
  | [], _ => ⟨(fun d h => nomatch h), Nat.le_refl _, (fun d h => nomatch h)⟩
  | r :: rs, h => ((Gl'.one (h r (List.mem_cons_self ..)).gd).app (rows_gl rs fun x hx => h x (List.mem_cons_of_mem _ hx))).mono (Nat.le_refl _) (by simp only [List.length_cons]; omega) (Nat.le_refl _)
theorem pairs_gl : ∀ ps : List (List Int × List Int), (∀ p ∈ ps, smallR p.1 ∧ smallR p.2) → Gl' big (21 * ps.length) 2 (ps.map fun q => pairD q.1 q.2)
  | [], _ => ⟨(fun d h => nomatch h), Nat.le_refl _, (fun d h => nomatch h)⟩
  | p :: ps, h => ((Gl'.one ((h p (List.mem_cons_self ..)).1.pair (h p (List.mem_cons_self ..)).2)).app (pairs_gl ps fun x hx => h x (List.mem_cons_of_mem _ hx))).mono (Nat.le_refl _) (by simp only [List.length_cons]; omega) (Nat.le_refl _)
theorem grid_smallR {qs : List (Str × Int)} (l3 : qs.length ≤ 3) (b : ∀ q ∈ qs, 1 ≤ q.2 ∧ q.2 ≤ 3) {r : List Int} (h : r ∈ grid qs) : smallR r := by
  have so : stOk qs r := (mem_grid fun q hq => by have := b q hq; omega).mp h
  have lr : r.length = qs.length := so.1
  refine ⟨fun i hi => ?_, by omega⟩
  obtain ⟨j, hj⟩ := List.mem_iff_getElem?.mp hi
  have jl : j < qs.length := by
    rw [← lr]
    exact (List.getElem?_eq_some_iff.mp hj).1
  have hq : qs[j]? = some qs[j] := List.getElem?_eq_getElem jl
  have := so.2 j _ i hq hj
  have := b _ (List.mem_of_getElem? hq)
  omega
theorem gridD_good {qs : List (Str × Int)} (l3 : qs.length ≤ 3) (b : ∀ q ∈ qs, 1 ≤ q.2 ∧ q.2 ≤ 3) (g12 : (grid qs).length ≤ 12) : Gd big 120 2 (gridD qs) := (Gd.tup (rows_gl _ fun r hr => grid_smallR l3 b hr)).mono (Nat.le_refl _) (by omega) (Nat.le_refl _)
theorem nearL_in {us rs : List (List Int)} {p : List Int × List Int} (h : p ∈ nearL us rs) : p.1 ∈ us ∧ p.2 ∈ rs := by
  unfold nearL nearLo at h
  obtain ⟨r, hr, h⟩ := List.mem_flatMap.mp h
  obtain ⟨s, hs, rfl⟩ := List.mem_map.mp h
  exact ⟨hr, (List.mem_filter.mp hs).1⟩
theorem nearDs_good {qs : List (Str × Int)} (l3 : qs.length ≤ 3) (b : ∀ q ∈ qs, 1 ≤ q.2 ∧ q.2 ≤ 3) (g12 : (grid qs).length ≤ 12) : Gd big 3024 3 (.tuple (nearDs (grid qs) (grid qs))) := by
  have hl := nearL_le (grid qs) (grid qs)
  have h3 : (grid qs).length * (grid qs).length ≤ 12 * 12 := Nat.mul_le_mul g12 g12
  rw [← nearL_D]
  exact (Gd.tup (pairs_gl _ fun p hp => ⟨grid_smallR l3 b (nearL_in hp).1, grid_smallR l3 b (nearL_in hp).2⟩)).mono (Nat.le_refl _) (by omega) (Nat.le_refl _)
/-! ### _law_due -/
def dueS (qs : List (Str × Int)) (d2 d3 : PyData) : PyData := match badW (switchD qs) d3 with
  | some u => .tuple [.str "switches", u]
  | none => .list [.tuple (prD qs), d2, d3]
def dueT (qs : List (Str × Int)) (d2 d3 : PyData) : PyData := match badW (standD qs) d2 with
  | some u => .tuple [.str "starts", u]
  | none => dueS qs d2 d3
def dueB (qs : List (Str × Int)) (d2 d3 : PyData) : PyData := dueT qs (startsD qs d2) (switchesD qs d3)
theorem fault_no {Pd : PyData → Bool} {d : PyData} (h : badW Pd d = none) : faultD Pd d = .none := by unfold faultD; rw [h]
theorem fault_yes {Pd : PyData → Bool} {d u : PyData} (h : badW Pd d = some u) : faultD Pd d = .tuple [u] := by unfold faultD; rw [h]
section
variable {P : Program} {w : World} {K : PySem.W.Frag} {mg : Str → Option Value} {base : Heap} {fN fM fFt fLs fLn fLp : Addr}
abbrev NDb : List Str := ["spots", "begin", "pairs", "rows"]
theorem scDb : FnScope NDb ["spots", "begin", "pairs"] (defScope sDue) := ⟨rfl, rfl, rfl, by decide +kernel, rfl, by decide +kernel, by decide +kernel⟩
def spDueB (K : PySem.W.Frag) : Sp := fun vs H Q _ => ∃ (m l a : Addr) (n : Nat) (xs : List V) (qs : List (Str × Int)) (v2 v3 : V) (d2 d3 : PyData) (b2 b3 : Nat), vs = [.ref a, v2, v3] ∧ Mch H m l n ∧ SqT K H a xs ∧ DqAll K H m l xs (prD qs) ∧ 1 ≤ qs.length ∧ qs.length ≤ 3 ∧ (∀ q ∈ qs, 1 ≤ q.2 ∧ q.2 ≤ 3) ∧ (grid qs).length ≤ 12 ∧
  Dq K H m l v2 d2 ∧ Gd (10 ^ 31) 100000 b2 d2 ∧ b2 ≤ 60 ∧ Dq K H m l v3 d3 ∧ Gd (10 ^ 31) 100000 b3 d3 ∧ b3 ≤ 60 ∧ ∀ (v : V) (H' : Hp), Same H H' → Dq K H' m l v (dueB qs d2 d3) → Q v H'
/-- Dq and a test of None -/
theorem Dq.isn {K : PySem.W.Frag} {H : Hp} {m l : Addr} {v : V} {d : PyData} (h : Dq K H m l v d) : decide (v = V.non) = (match d with | .none => true | _ => false) := by cases h <;> rfl
theorem ok_dueB {f : Addr} {fd fdFt fdLs fdLn fdLp : FuncData} (F : Fun K "_law_due" "_law_due" sDue f fd) (T : TxtS mg fN fM) (TB : TxtLb mg) (TF : TxtF mg)
    (gFt : mg "_law_fault" = some (.ref fFt)) (FFt : Fun K "_law_fault" "_law_fault" sFault fFt fdFt) (bFt : Binds K fdFt ["some", "thing"] [])
    (gLs : mg "_law_standings" = some (.ref fLs)) (FLs : Fun K "_law_standings" "_law_standings" sStandings fLs fdLs) (bLs : Binds K fdLs ["spots"] []) (gLn : mg "_law_near" = some (.ref fLn)) (FLn : Fun K "_law_near" "_law_near" sLNear fLn fdLn) (bLn : Binds K fdLn ["spots"] [])
    (gLp : mg "_law_pairs" = some (.ref fLp)) (FLp : Fun K "_law_pairs" "_law_pairs" sLPairs fLp fdLp) (bLp : Binds K fdLp ["spots"] []) :
    FnG P w K mg base 3 f fd ["spots", "begin", "pairs"] (spDueB K) := by
  have GFt : FnG P w K mg base 1 fFt fdFt ["some", "thing"] (spFault K) := ok_fault FFt TF
  have GLs : FnOk P w K mg base CX0 1 fLs fdLs ["spots"] (spLStand K) := ok_lstand FLs T.toTxtN
  have GLn : FnOk P w K mg base CX0 2 fLn fdLn ["spots"] (spLNear K) := ok_lnear FLn T.toTxtN TB.zip TB.sum TB.abs gLs FLs bLs
  have GLp : FnOk P w K mg base CX0 2 fLp fdLp ["spots"] (spLPairs K) := ok_lpairs FLp T.toTxtN gLs FLs bLs
  refine okG F scDb (fun vs H Q E h => ?_) (fun cdv A outer s H vs Q E gA hr h => ?_)
  · obtain ⟨m, l, a, n, xs, qs, v2, v3, d2, d3, b2, b3, rfl, _⟩ := h
    rfl
  obtain ⟨m, l, a, n, xs, qs, v2, v3, d2, d3, b2, b3, rfl, M, hs, hx, l1, l3, bq, g12, h2, g2, c2, h3, g3, c3, q⟩ := h
  have hr1 : Room 1 _ := hr.mono (by decide)
  have hp := prD_trs qs xs hx
  have fst3 : ∀ (H1 : Hp) (R : Addr) (us : List V) (vb : V) (db : PyData) (b : Nat) (Q' : VK), H1 R = some (.lst us) → Rwq K H1 us (grid qs) → Dq K H1 m l vb db → Gd (10 ^ 31) 100000 b db → b ≤ 60 →
      (∀ (v' : V) (H' : Hp), Same H1 H' → Dq K H' m l v' (faultD (standD qs) db) → Q' v' H') → spFault K [.ref R, vb] H1 Q' E0 := fun H1 R us vb db b Q' gR rq hb gb cb k =>
    ⟨m, l, R, us, (grid qs).map rowD, vb, db, b, standD qs, rfl, gR, rq.dq, (by have := rq.len; omega), (fun k hk => by
      obtain ⟨r, hr, rfl⟩ := List.mem_map.mp hk
      exact (grid_smallR l3 bq hr).gd.mono (by decide) (by decide) (by decide)), known_row l1 bq, (fun e e' h h' => let ⟨x1, x2, x3, x4⟩ := stand_alike h h'; ⟨x1, x2, x3, Nat.le_trans x4 (by decide)⟩), hb, gb, cb, k⟩
  have snd3 : ∀ (H1 : Hp) (L : Addr) (us : List V) (vp : V) (dp : PyData) (b : Nat) (Q' : VK), H1 L = some (.lst us) → Prq K H1 us (pairsL (grid qs) (grid qs)) → Dq K H1 m l vp dp → Gd (10 ^ 31) 100000 b dp → b ≤ 60 →
      (∀ (v' : V) (H' : Hp), Same H1 H' → Dq K H' m l v' (faultD (switchD qs) dp) → Q' v' H') → spFault K [.ref L, vp] H1 Q' E0 := fun H1 L us vp dp b Q' gL pq hb gb cb k =>
    ⟨m, l, L, us, (pairsL (grid qs) (grid qs)).map fun q => pairD q.1 q.2, vp, dp, b, switchD qs, rfl, gL, pq.dq, (by
      have := pq.len
      have := pairsL_le (grid qs) (grid qs)
      have h3 : (grid qs).length * (grid qs).length ≤ 12 * 12 := Nat.mul_le_mul g12 g12
      omega), (fun k hk => by
      obtain ⟨r, hr, rfl⟩ := List.mem_map.mp hk
      obtain ⟨m1, m2, _⟩ := mem_pairsL.mp (show (r.1, r.2) ∈ pairsL (grid qs) (grid qs) from hr)
      exact ((grid_smallR l3 bq m1).pair (grid_smallR l3 bq m2)).mono (by decide) (by decide) (by decide)), known_pair l1 bq, (fun e e' h h' => let ⟨x1, x2, x3, x4⟩ := switch_alike h h'; ⟨x1, x2, x3, Nat.le_trans x4 (by decide)⟩), hb, gb, cb, k⟩
  have tail3 : ∃ t, PSs (cxOf CX0 P w K mg base NDb "_law_due" (defScope sDue) f cdv A outer s H E).nox ((defBody sDue).drop 3) t ∧ ∀ (H1 : Hp) (R : Addr) (us : List V) (vb vp : V) (db dp : PyData) (b b' : Nat), Same H H1 → H1 R = some (.lst us) → Rwq K H1 us (grid qs) →
      Dq K H1 m l vb db → Gd (10 ^ 31) 100000 b db → b ≤ 60 → Dq K H1 m l vp dp → Gd (10 ^ 31) 100000 b' dp → b' ≤ 60 → (∀ (v : V) (H' : Hp), Same H H' → Dq K H' m l v (dueT qs db dp) → Q v H') →
      t ({ nx := fun _ H' => Q .non H', rt := Q } : Ends) [some (.ref a), some vb, some vp, some (.ref R)] H1 := by
    refine ⟨_, pss_cons (ps_if (pt_cmpR op_notN (pe_callG GFt gA hr1 (by rfl) gFt FFt.kp bFt .nil (pa_cons (pv 3) (pa_cons (pv 1) pa_nil))) pe_non (nomark _))
      (pss_one (ps_ret (pe_tup (pa_cons pe_str (pa_cons (pe_ix ix_tup (pe_callG GFt gA hr1 (by rfl) gFt FFt.kp bFt .nil (pa_cons (pv 3) (pa_cons (pv 1) pa_nil))) pe_int (fun _ _ => rfl)) pa_nil))))) pss_nil)
    (pss_cons (ps_if (pt_cmpR op_notN (pe_callG GFt gA hr1 (by rfl) gFt FFt.kp bFt .nil (pa_cons (pe_call GLp hr (by rfl) gLp FLp.kp bLp .nil pass0 (pa_cons (pv 0) pa_nil)) (pa_cons (pv 2) pa_nil))) pe_non (nomark _))
      (pss_one (ps_ret (pe_tup (pa_cons pe_str (pa_cons (pe_ix ix_tup (pe_callG GFt gA hr1 (by rfl) gFt FFt.kp bFt .nil (pa_cons (pe_call GLp hr (by rfl) gLp FLp.kp bLp .nil pass0 (pa_cons (pv 0) pa_nil)) (pa_cons (pv 2) pa_nil))) pe_int (fun _ _ => rfl)) pa_nil))))) pss_nil)
    (pss_one (ps_ret (pe_lst (pa_cons (pv 0) (pa_cons (pv 1) (pa_cons (pv 2) pa_nil))))))), ?_⟩
    intro H1 R us vb vp db dp b b' s1 gR rq hb gb cb hp' gp cp q'
    refine ⟨_, rfl, _, rfl, fst3 H1 R us vb db b _ gR rq hb gb cb fun v1 H2 s2 dq2 => ?_⟩
    refine ⟨rfl, _, rfl, ?_⟩
    cases e1 : badW (standD qs) db with
    | some u =>
      rw [fault_yes e1] at dq2
      refine ifT (by rw [dq2.isn]; rfl) ?_
      refine ⟨_, rfl, _, rfl, fst3 H2 R us vb db b _ (s2 _ _ gR) (rq.same s2) (Dq.same s2 _ _ hb) gb cb fun v3' H3 s3 dq3 => ?_⟩
      rw [fault_yes e1] at dq3
      cases dq3 with
      | tup h0 hy =>
        cases hy with
        | cons hu hn =>
          cases hn
          refine ⟨_, _, 0, _, rfl, rfl, h0, atI_nat (j := 0) rfl, (by show 2 ≤ sizeLine; decide), fun p hp => ?_⟩
          refine q' _ _ (s1.trans (s2.trans (s3.trans (Same.upd hp)))) ?_
          rw [show dueT qs db dp = .tuple [.str "starts", u] from by unfold dueT; rw [e1]]
          exact .tup (.inl (.inl upd_same)) (.cons (.str _) (.cons (Dq.same (Same.upd hp) _ _ hu) .nil))
    | none =>
      rw [fault_no e1] at dq2
      refine ifF (by rw [dq2.isn]; rfl) ?_
      have s12 := s1.trans s2
      refine ⟨_, rfl, a, xs, qs, rfl, Same.seqT s12 hs, hp.same s12, l3, bq, g12, fun L vs' H3 hL s3 gL pq => ?_⟩
      refine ⟨_, rfl, snd3 H3 L vs' vp dp b' _ gL pq (Dq.same (s2.trans s3) _ _ hp') gp cp fun v4 H4 s4 dq4 => ?_⟩
      refine ⟨rfl, _, rfl, ?_⟩
      have s14 := s12.trans (s3.trans s4)
      have s24 := s2.trans (s3.trans s4)
      have eT : dueT qs db dp = dueS qs db dp := by unfold dueT; rw [e1]
      cases e2 : badW (switchD qs) dp with
      | some u =>
        rw [fault_yes e2] at dq4
        refine ifT (by rw [dq4.isn]; rfl) ?_
        refine ⟨_, rfl, a, xs, qs, rfl, Same.seqT s14 hs, hp.same s14, l3, bq, g12, fun L2 vs2 H5 hL2 s5 gL2 pq2 => ?_⟩
        refine ⟨_, rfl, snd3 H5 L2 vs2 vp dp b' _ gL2 pq2 (Dq.same (s24.trans s5) _ _ hp') gp cp fun v6 H6 s6 dq6 => ?_⟩
        rw [fault_yes e2] at dq6
        cases dq6 with
        | tup h0 hy =>
          cases hy with
          | cons hu hn =>
            cases hn
            refine ⟨_, _, 0, _, rfl, rfl, h0, atI_nat (j := 0) rfl, (by show 2 ≤ sizeLine; decide), fun p hp => ?_⟩
            refine q' _ _ (s14.trans (s5.trans (s6.trans (Same.upd hp)))) ?_
            rw [eT, show dueS qs db dp = .tuple [.str "switches", u] from by unfold dueS; rw [e2]]
            exact .tup (.inl (.inl upd_same)) (.cons (.str _) (.cons (Dq.same (Same.upd hp) _ _ hu) .nil))
      | none =>
        rw [fault_no e2] at dq4
        refine ifF (by rw [dq4.isn]; rfl) ?_
        refine ⟨_, rfl, _, rfl, _, rfl, (by show 3 ≤ sizeLine; decide), fun p9 h9 => ?_⟩
        have s9 := s14.trans (Same.upd (o := .lst [.ref a, vb, vp]) h9)
        have s29 := s24.trans (Same.upd (o := .lst [.ref a, vb, vp]) h9)
        have n9 := (M.same s14).ne h9
        refine q' _ _ s9 ?_
        rw [eT, show dueS qs db dp = .list [.tuple (prD qs), db, dp] from by unfold dueS; rw [e2]]
        exact .lst upd_same n9.1 n9.2 (.cons (Dq.same s9 _ _ (.tup hs hx)) (.cons (Dq.same s29 _ _ hb) (.cons (Dq.same s29 _ _ hp') .nil)))
  obtain ⟨t3, k3, z3⟩ := tail3
  have tail2 : ∃ t, PSs (cxOf CX0 P w K mg base NDb "_law_due" (defScope sDue) f cdv A outer s H E).nox ((defBody sDue).drop 2) t ∧ ∀ (H1 : Hp) (R : Addr) (us : List V) (vb : V) (db : PyData) (b : Nat), Same H H1 → H1 R = some (.lst us) → Rwq K H1 us (grid qs) →
      Dq K H1 m l vb db → Gd (10 ^ 31) 100000 b db → b ≤ 60 → (∀ (v : V) (H' : Hp), Same H H' → Dq K H' m l v (dueT qs db (switchesD qs d3)) → Q v H') →
      t ({ nx := fun _ H' => Q .non H', rt := Q } : Ends) [some (.ref a), some vb, some v3, some (.ref R)] H1 := by
    refine ⟨_, pss_cons (ps_set (i := 2) scDb.nd rfl (by first | exact Or.inl rfl | exact Or.inr rfl) (pe_ifExp (pt_cmpR op_isN (pv 2) pe_non (nomark _)) (pe_callTy call_tuple_of (by rfl) T.tuple (by decide +kernel) (pa_cons (pe_call GLn hr (by rfl) gLn FLn.kp bLn .nil pass0 (pa_cons (pv 0) pa_nil)) pa_nil)) (pv 2))) k3, ?_⟩
    intro H1 R us vb db b s1 gR rq hb gb cb q'
    refine ⟨_, rfl, rfl, _, rfl, ?_⟩
    cases d3 with
    | none =>
      refine ifT (by rw [h3.isn]) ?_
      refine ⟨_, rfl, a, xs, qs, rfl, Same.seqT s1 hs, hp.same s1, l3, bq, g12, fun L vs' H3 hL s3 gL pq => ⟨L, vs', rfl, .inl ⟨SqL.of gL, fun p9 h9 => ?_⟩⟩⟩
      have s9 := s3.trans (Same.upd (o := .tup vs') h9)
      refine z3 _ R us vb (.ref p9) db (.tuple (nearDs (grid qs) (grid qs))) b 3 (s1.trans s9) (s9 _ _ gR) (rq.same s9) (Dq.same s9 _ _ hb) gb cb (.tup (.inl (.inl upd_same)) ?_) ((nearDs_good l3 bq g12).mono (by decide) (by decide) (by decide)) (by decide) q'
      rw [← nearL_D]
      exact (pq.same (Same.upd h9)).dq
    | _ => exact ifF (by rw [h3.isn]) ⟨_, rfl, z3 _ R us vb v3 db _ b b3 s1 gR rq hb gb cb (Dq.same s1 _ _ h3) g3 c3 q'⟩
  obtain ⟨t2, k2, z2⟩ := tail2
  refine ⟨_, pss_cons (ps_set (i := 3) scDb.nd rfl (Or.inl rfl) (pe_call GLs hr1 (by rfl) gLs FLs.kp bLs .nil pass0 (pa_cons (pv 0) pa_nil)))
    (pss_cons (ps_set (i := 1) scDb.nd rfl (by first | exact Or.inl rfl | exact Or.inr rfl) (pe_ifExp (pt_cmpR op_isN (pv 1) pe_non (nomark _)) (pe_callTy call_tuple_of (by rfl) T.tuple (by decide +kernel) (pa_cons (pv 3) pa_nil)) (pv 1))) k2), ?_⟩
  refine ⟨_, rfl, a, xs, qs, rfl, hs, hp, l3, bq, fun R us H1 hR s1 gR rq => ?_⟩
  refine ⟨_, rfl, rfl, _, rfl, ?_⟩
  cases d2 with
  | none =>
    refine ifT (by rw [h2.isn]) ?_
    refine ⟨_, rfl, R, us, rfl, .inl ⟨SqL.of gR, fun p9 h9 => ?_⟩⟩
    have s9 : Same H1 (upd H1 p9 (.tup us)) := Same.upd h9
    exact z2 _ R us (.ref p9) (gridD qs) 2 (s1.trans s9) (s9 _ _ gR) (rq.same s9) (.tup (.inl (.inl upd_same)) (rq.same s9).dq) ((gridD_good l3 bq g12).mono (by decide) (by decide) (by decide)) (by decide) q
  | _ => exact ifF (by rw [h2.isn]) ⟨_, rfl, z2 _ R us v2 _ b2 s1 gR rq (Dq.same s1 _ _ h2) g2 c2 q⟩
end
end Ms
namespace Ms
open PySem PySem.Spec PyProof.Rows L2 LamX
/-! ### _law_told(lambda: ..) of law k03 -/
/-- what the def makes of the lambda's reading: the book's fields in a list, or how it is refused -/
def TTb (K : PySem.W.Frag) (C CS CT CW : Addr) : (XK → Hp → VK → Prop) → Hp → VK → Prop := fun tl H Q => ∀ (H0 : Hp) (Ec : XK) (Qc : VK), Same H H0 →
  (∀ (dd : Addr) (u : V) (H' : Hp), H' dd = some (.xd [("place", u)]) → (∀ p, H' p = none → Q (.ref p) (upd H' p (.tup [.str "settings", u]))) → Ec (.ref CS) (some dd) H') →
  (∀ (dd : Addr) (u : V) (H' : Hp), H' dd = some (.xd [("place", u)]) → (∀ p, H' p = none → Q (.ref p) (upd H' p (.tup [.str "starts", u]))) → Ec (.ref CT) (some dd) H') →
  (∀ (dd : Addr) (u : V) (H' : Hp), H' dd = some (.xd [("place", u)]) → (∀ p, H' p = none → Q (.ref p) (upd H' p (.tup [.str "switches", u]))) → Ec (.ref CW) (some dd) H') →
  (∀ (x dx : Addr) (v1 vg v2 v3 vq : V) (H1 : Hp), H1 x = some (.ins C dx (bookF v1 vg v2 v3 vq)) → (∀ p, H1 p = none → Q (.ref p) (upd H1 p (.lst [v1, v2, v3]))) → Qc (.ref x) H1) → tl Ec H0 Qc
abbrev NTo : List Str := ["call", "book", "e"]
theorem scTo : FnScope NTo ["call"] (defScope sTold) := ⟨rfl, rfl, rfl, by decide +kernel, rfl, by decide +kernel, by decide +kernel⟩
/-- one class of refusals: caught by its own clause alone -/
structure RefC (K : PySem.W.Frag) (C : Addr) : Prop where
  low : XfC K C
  no : PySem.W.findIn K (.ref C) "place" = some none
section
variable {X : Cx} {C CS CT CW g : Addr} {cdg : Value} {q : Str}
theorem told_book (RC : BookC X.K C) (mS : X.mg "BadSettings" = some (.ref CS)) (mT : X.mg "BadStarts" = some (.ref CT)) (mW : X.mg "BadSwitches" = some (.ref CW))
    (xSS : PySem.W.exmOne X.K (.ref CS) (.ref CS) = some true) (xPS : PySem.W.exmOne X.K (.ref CT) (.ref CS) = some false) (xPP : PySem.W.exmOne X.K (.ref CT) (.ref CT) = some true)
    (xMS : PySem.W.exmOne X.K (.ref CW) (.ref CS) = some false) (xMP : PySem.W.exmOne X.K (.ref CW) (.ref CT) = some false) (xMM : PySem.W.exmOne X.K (.ref CW) (.ref CW) = some true)
    (RS : RefC X.K CS) (RP : RefC X.K CT) (RM : RefC X.K CW) :
    GivesTo X NTo "_law_told" (defScope sTold) g cdg (defBody sTold) "call" q (TTb X.K C CS CT CW) := by
  intro f c' s H Q tl act hc h
  refine ⟨_, pss_cons (ps_try_list (X := (cxOf C8.CX0 X.prog X.w X.K X.mg X.base NTo "_law_told" (defScope sTold) g cdg X.A X.stack s H C8.E0).nox) (i := 2) (n := "e")
      (tb := fun W D σ H1 => σ[0]? = some (some (.ref f)) ∧ H1 c' = some (CodeO c' q) ∧ tl (fun cls d H' => ∀ σ' : L2.St, σ'.length = 3 → W cls d σ' H') H1 (fun y H2 => gName 1 y σ H2 D.nx))
      rfl rfl scTo.nd rfl rfl (fun W pn xe tk _ => ?_)
      (.more (c := .ref CS) ⟨by rfl, by decide, .inl mS⟩ (fun a oe cls d pn hz hf => pss_one (ps_ret (pe_tup (pa_cons pe_str (pa_cons (pe_xf RS.low RS.no hz hf (pv 2)) pa_nil)))))
      (.more (c := .ref CT) ⟨by rfl, by decide, .inl mT⟩ (fun a oe cls d pn hz hf => pss_one (ps_ret (pe_tup (pa_cons pe_str (pa_cons (pe_xf RP.low RP.no hz hf (pv 2)) pa_nil)))))
      (.more (c := .ref CW) ⟨by rfl, by decide, .inl mW⟩ (fun a oe cls d pn hz hf => pss_one (ps_ret (pe_tup (pa_cons pe_str (pa_cons (pe_xf RM.low RM.no hz hf (pv 2)) pa_nil)))))
      .last))))
    (pss_one (ps_ret (pe_lst (pa_cons (pe_fld (pv 1) rfl) (pa_cons (pe_fld (pv 1) rfl) (pa_cons (pe_fld (pv 1) rfl) pa_nil)))))), ?_⟩
  · refine ⟨fun pins s' σ H' D I h' => ?_⟩
    obtain ⟨h1, h2, h3⟩ := h'
    have tk' : Takes ((cxOf C8.CX0 X.prog X.w X.K X.mg X.base NTo "_law_told" (defScope sTold) g cdg X.A X.stack s H C8.E0).nox.tr pn xe) (fun cls d σ' H' => σ'.length = 3 → W cls d σ' H') := fun u s' ⟨a, B, sI, pins, σ, H, cls, d, e, I, nb, up, sky, na, os, ag, w⟩ =>
      tk u s' ⟨a, B, sI, pins, σ, H, cls, d, e, I, nb, up, sky, na, os, ag, w I.len⟩
    have hp := fun p1 p2 => act _ pn xe (fun cls d H' => ∀ σ' : L2.St, σ'.length = 3 → W cls d σ' H') p1 p2 tk' (fun cls d σ' H' e hl => e σ' hl)
    exact (pss_one (ps_set (i := 1) scTo.nd rfl (by first | exact Or.inl rfl | exact Or.inr rfl) (hp _ _))).run pins s' σ H' D I ⟨h1, h2, h3⟩
  · refine ⟨rfl, hc, h _ _ _ (Same.refl H) (fun dd u H' hdd k σ' hl => ?_) (fun dd u H' hdd k σ' hl => ?_) (fun dd u H' hdd k σ' hl => ?_) (fun x dx v1 vg v2 v3 vq H1 hx k => ?_)⟩
    · match σ', hl with
      | [x0, x1, x2], _ =>
        exact ⟨true, xSS, fun _ a na => ⟨_, rfl, rfl, rfl, dd, _, _, rfl, hdd, rfl, (by show 2 ≤ sizeLine; decide), fun p hp => k p hp⟩, fun z => nomatch z⟩
    · match σ', hl with
      | [x0, x1, x2], _ =>
        exact ⟨false, xPS, (fun z => nomatch z), fun _ => ⟨true, xPP, fun _ a na => ⟨_, rfl, rfl, rfl, dd, _, _, rfl, hdd, rfl, (by show 2 ≤ sizeLine; decide), fun p hp => k p hp⟩, fun z => nomatch z⟩⟩
    · match σ', hl with
      | [x0, x1, x2], _ =>
        exact ⟨false, xMS, (fun z => nomatch z), fun _ => ⟨false, xMP, (fun z => nomatch z), fun _ => ⟨true, xMM, fun _ a na => ⟨_, rfl, rfl, rfl, dd, _, _, rfl, hdd, rfl, (by show 2 ≤ sizeLine; decide), fun p hp => k p hp⟩, fun z => nomatch z⟩⟩⟩
    · exact ⟨_, rfl, x, C, dx, _, _, rfl, hx, RC.cl, RC.nS, rfl, _, rfl, x, C, dx, _, _, rfl, hx, RC.cl, RC.nT, rfl, _, rfl, x, C, dx, _, _, rfl, hx, RC.cl, RC.nW, rfl, (by show 3 ≤ sizeLine; decide), fun p hp => k p hp⟩
end
/-! ### a book, made and told -/
section
variable {K : PySem.W.Frag} {C CS CT CW : Addr}
theorem need_ok {ys : List (Str × Int)} (so : SetOk ys) {u : V} (h : needV (.tuple (prD ys)) = some u) : False := by rw [so.need] at h; cases h
theorem prD_inj : ∀ {qs ys : List (Str × Int)}, prD qs = prD ys → qs = ys
  | [], [], _ => rfl
  | [], _ :: _, h => by cases h
  | _ :: _, [], h => by cases h
  | (a, b) :: qs, (c, e) :: ys, h => by
    have h' : PyData.tuple [.str a, .int b] :: prD qs = .tuple [.str c, .int e] :: prD ys := h
    injection h' with h1 h2
    injection h1 with h3
    injection h3 with h4 h5
    injection h5 with h6 h7
    injection h4 with h8
    injection h6 with h9
    rw [h8, h9, prD_inj h2]
theorem needW_yes {Pd : PyData → Bool} {d : PyData} {u : V} (h : needW Pd d = some u) : ∃ e, badW Pd d = some e ∧ ∀ (K : PySem.W.Frag) (H : Hp) (m l : Addr), Dq K H m l u e := by
  cases d with
  | tuple ds =>
    have h' : (firstW Pd none 0 ds).map (fun p => V.int (p : Nat)) = some u := h
    obtain ⟨p, hp, rfl⟩ := Option.map_eq_some_iff.mp h'
    exact ⟨.int (p : Nat), by show (firstW Pd none 0 ds).map (fun p => PyData.int (p : Nat)) = _; rw [hp]; rfl, fun K H m l => .int _⟩
  | _ => cases h; exact ⟨.none, rfl, fun K H m l => .non⟩
theorem needW_no {Pd : PyData → Bool} {d : PyData} (h : needW Pd d = none) : badW Pd d = none := by
  cases d with
  | tuple ds =>
    have h' : (firstW Pd none 0 ds).map (fun p => V.int (p : Nat)) = none := h
    have hp := Option.map_eq_none_iff.mp h'
    show (firstW Pd none 0 ds).map (fun p => PyData.int (p : Nat)) = none
    rw [hp]; rfl
  | _ => cases h
theorem book_made {H3 : Hp} {Ec : XK} {Qc Q : VK} {m l : Addr} {v1 v2 v3 : V} {ys : List (Str × Int)} {d2 d3 : PyData} {b1 n : Nat} (M : Mch H3 m l n) (so : SetOk ys) (h1 : Dq K H3 m l v1 (.tuple (prD ys))) (g1 : Gd (10 ^ 31) 100000 b1 (.tuple (prD ys)))
    (h2 : Dq K H3 m l v2 d2) (g2 : shortD d2) (h3 : Dq K H3 m l v3 d3) (g3 : shortD d3)
    (hT : ∀ (dd : Addr) (u : V) (H' : Hp), H' dd = some (.xd [("place", u)]) → (∀ p, H' p = none → Q (.ref p) (upd H' p (.tup [.str "starts", u]))) → Ec (.ref CT) (some dd) H')
    (hW : ∀ (dd : Addr) (u : V) (H' : Hp), H' dd = some (.xd [("place", u)]) → (∀ p, H' p = none → Q (.ref p) (upd H' p (.tup [.str "switches", u]))) → Ec (.ref CW) (some dd) H')
    (hQ : ∀ (x dx : Addr) (v1 vg v2 v3 vq : V) (H1 : Hp), H1 x = some (.ins C dx (bookF v1 vg v2 v3 vq)) → (∀ p, H1 p = none → Q (.ref p) (upd H1 p (.lst [v1, v2, v3]))) → Qc (.ref x) H1)
    (key : ∀ (tv : V) (Hend : Hp), Same H3 Hend → Dq K Hend m l tv (dueB ys d2 d3) → Q tv Hend) :
    ∀ x dx, H3 x = none → H3 dx = none → dx ≠ x → spBook K C CS CT CW [.ref x, v1, v2, v3] (upd (upd H3 dx (.own x)) x (.ins C dx [])) (fun v H2 => v = .non ∧ Qc (.ref x) H2) Ec := by
  intro x dx hx hdx ne
  have s0 : Same H3 (upd (upd H3 dx (.own x)) x (.ins C dx [])) := (Same.upd hdx).trans (Same.upd (by rw [upd_ne ne.symm]; exact hx))
  have xs : ∀ {H'}, SameX x (upd (upd H3 dx (.own x)) x (.ins C dx [])) H' → Same H3 H' := fun k b o e => k b o (ne_of_none e hx) (s0 b o e)
  refine ⟨m, l, x, dx, v1, v2, v3, .tuple (prD ys), d2, d3, _, b1, rfl, upd_same, Dq.same s0 _ _ h1, g1, Dq.same s0 _ _ h2, g2, Dq.same s0 _ _ h3, g3, (fun u hu => (need_ok so hu).elim), fun _ qs eq => ?_⟩
  have eq' : qs = ys := (prD_inj (PyData.tuple.inj eq)).symm
  subst eq'
  refine ⟨fun u hu e H' _ k hd => hT e u H' hd fun p hp => ?_, fun hp0 => ⟨fun u hu e H' _ k hd => hW e u H' hd fun p hp => ?_, fun hm0 H' p0 v2' v3' vg k hd _ dq2 dq3 => ⟨rfl, hQ x dx v1 (.ref p0) v2' v3' vg H' hd fun p hp => ?_⟩⟩⟩
  · have sp := (xs k).trans (Same.upd (o := .tup [.str "starts", u]) hp)
    obtain ⟨e9, he, hv⟩ := needW_yes hu
    refine key _ _ sp ?_
    rw [show dueB qs d2 d3 = .tuple [.str "starts", e9] from by unfold dueB dueT; rw [he]]
    exact .tup (.inl (.inl upd_same)) (.cons (.str _) (.cons (hv ..) .nil))
  · have sp := (xs k).trans (Same.upd (o := .tup [.str "switches", u]) hp)
    obtain ⟨e9, he, hv⟩ := needW_yes hu
    refine key _ _ sp ?_
    rw [show dueB qs d2 d3 = .tuple [.str "switches", e9] from by unfold dueB dueT; rw [needW_no hp0]; simp only; unfold dueS; rw [he]]
    exact .tup (.inl (.inl upd_same)) (.cons (.str _) (.cons (hv ..) .nil))
  · have sp := (xs k).trans (Same.upd (o := .lst [v1, v2', v3']) hp)
    have np := (M.same (xs k)).ne hp
    refine key _ _ sp ?_
    rw [show dueB qs d2 d3 = .list [.tuple (prD qs), startsD qs d2, switchesD qs d3] from by unfold dueB dueT; rw [needW_no hp0]; simp only; unfold dueS; rw [needW_no hm0]]
    exact .lst upd_same np.1 np.2 (.cons (Dq.same sp _ _ h1) (.cons (Dq.same (Same.upd hp) _ _ dq2) (.cons (Dq.same (Same.upd hp) _ _ dq3) .nil)))
/-! ### the answer is not too great to be shown -/
theorem firstW_lt {Pd : PyData → Bool} : ∀ (ds : List PyData) (prev : Option PyData) (n r : Nat), firstW Pd prev n ds = some r → r < n + ds.length
  | [], _, _, _, h => by cases h
  | d :: ds, prev, n, r, h => by
    have key : ∀ c : Bool, (if c = true then firstW Pd (some d) (n + 1) ds else some n) = some r → r < n + (d :: ds).length := fun c h => by
      by_cases hc : c = true
      · rw [if_pos hc] at h
        have := firstW_lt ds (some d) (n + 1) r h
        simp only [List.length_cons]; omega
      · rw [if_neg hc] at h
        cases h
        simp only [List.length_cons]; omega
    exact key _ h
theorem Gd.short {B a b : Nat} {d : PyData} (g : Gd B a b d) (h : a ≤ 100000) : shortD d := fun ds e => by
  subst e
  have h1 := g.wt
  have h2 : (PyData.tuple ds).weight = PyData.weightAll ds := by simp only [PyData.weight]
  have := wA_len ds
  omega
theorem badW_good {Pd : PyData → Bool} {d u : PyData} {B a b : Nat} (g : Gd B a b d) (ha : a ≤ 100000) (h : badW Pd d = some u) : Gd (10 ^ 31) 104 0 u := by
  cases d with
  | tuple ds =>
    have h' : (firstW Pd none 0 ds).map (fun p => PyData.int (p : Nat)) = some u := h
    obtain ⟨p, hp, rfl⟩ := Option.map_eq_some_iff.mp h'
    have h1 := firstW_lt ds none 0 p hp
    have h2 := g.short ha ds rfl
    exact Gd.int (by show ((p : Nat) : Int).natAbs ≤ 10 ^ 31; omega) (Nat.le_refl _)
  | _ => cases h; exact ⟨by decide, by decide, by decide⟩
theorem starts_good {qs : List (Str × Int)} {d : PyData} {a b : Nat} (l3 : qs.length ≤ 3) (bq : ∀ q ∈ qs, 1 ≤ q.2 ∧ q.2 ≤ 3) (g12 : (grid qs).length ≤ 12) (g : Gd (10 ^ 31) a b d) (ha : a ≤ 45000) (hb : b ≤ 38) : Gd (10 ^ 31) 45000 38 (startsD qs d) := by
  cases d with
  | none => exact (gridD_good l3 bq g12).mono (by decide) (by decide) (by decide)
  | _ => exact g.mono (Nat.le_refl _) ha hb
theorem switches_good {qs : List (Str × Int)} {d : PyData} {a b : Nat} (l3 : qs.length ≤ 3) (bq : ∀ q ∈ qs, 1 ≤ q.2 ∧ q.2 ≤ 3) (g12 : (grid qs).length ≤ 12) (g : Gd (10 ^ 31) a b d) (ha : a ≤ 45000) (hb : b ≤ 38) : Gd (10 ^ 31) 45000 38 (switchesD qs d) := by
  cases d with
  | none => exact (nearDs_good l3 bq g12).mono (by decide) (by decide) (by decide)
  | _ => exact g.mono (Nat.le_refl _) ha hb
theorem dueB_good {qs : List (Str × Int)} {d2 d3 : PyData} {a2 a3 b2 b3 : Nat} (l3 : qs.length ≤ 3) (bq : ∀ q ∈ qs, 1 ≤ q.2 ∧ q.2 ≤ 3) (g12 : (grid qs).length ≤ 12) (g1 : Gd (10 ^ 31) 600 2 (.tuple (prD qs))) (g2 : Gd (10 ^ 31) a2 b2 d2) (g3 : Gd (10 ^ 31) a3 b3 d3) (ha : a2 ≤ 45000) (hb : a3 ≤ 45000) (h2 : b2 ≤ 38) (h3 : b3 ≤ 38) :
    (dueB qs d2 d3).showable = true ∧ (dueB qs d2 d3).depth ≤ 60 ∧ (dueB qs d2 d3).shown.length ≤ sizeLine := by
  have any : ∀ {d : PyData} {b : Nat}, Gd (10 ^ 31) 200000 b d → b ≤ 60 → d.showable = true ∧ d.depth ≤ 60 ∧ d.shown.length ≤ sizeLine := fun {d b} g hb => ⟨(g.shown (Nat.le_refl _)).1, Nat.le_trans g.dp hb, (g.shown (Nat.le_refl _)).2⟩
  have bad : ∀ (z : Str) (u : PyData), sOk 16 z → Gd (10 ^ 31) 104 0 u → Gd (10 ^ 31) 200000 1 (.tuple [.str z, u]) := fun z u hz p =>
    (Gd.tup ((Gl'.one (Gd.str hz)).app (Gl'.one p))).mono (Nat.le_refl _) (by omega) (Nat.le_refl _)
  have k2 := starts_good l3 bq g12 g2 ha h2
  have k3 := switches_good l3 bq g12 g3 hb h3
  unfold dueB dueT
  cases e1 : badW (standD qs) (startsD qs d2) with
  | some u => exact any (bad "starts" u ⟨by decide, by decide⟩ (badW_good k2 (by decide) e1)) (by decide)
  | none =>
    simp only
    unfold dueS
    cases e2 : badW (switchD qs) (switchesD qs d3) with
    | some u => exact any (bad "switches" u ⟨by decide, by decide⟩ (badW_good k3 (by decide) e2)) (by decide)
    | none =>
      refine any ((Gd.lst ((Gl'.one (g1.mono (Nat.le_refl _) (Nat.le_refl _) (show 2 ≤ 38 by decide))).app ((Gl'.one k2).app (Gl'.one k3)))).mono (Nat.le_refl _) (by omega) (Nat.le_refl _)) (by decide)
end
end Ms
/-! ### t[::-1] of a tuple -/
namespace L2
open PySem PySem.Spec PyProof.Rows HT
section
variable {prog : Program} {w : World} {A : Around} {E : Value → Shared → Prop} {s : Shared}
theorem places_rev (n : Nat) : Builtin.Slice.slicePlaces ((n : Int) - 1) (-1) (-1) = n := by
  unfold Builtin.Slice.slicePlaces
  rw [if_neg (by decide)]
  by_cases h : (n : Int) - 1 > -1
  · rw [if_pos h, show (-(-1 : Int)) = 1 by decide, Int.ediv_one]
    omega
  · rw [if_neg h]
    omega
theorem applied_rev {sl : Addr} {lo hi st : Value} {n : Nat} {Q : Int × Int × Nat → Shared → Prop} (hs : s.heap.IsSliceOf sl lo hi st) (p1 : IsPart lo none) (p2 : IsPart hi none) (p3 : IsPart st (some (-1)))
    (q : Q ((n : Int) - 1, -1, n) s) : wpAny (model prog w) A (Builtin.Slice.sliceApplied (.ref sl) (pure (n : Int))) Q E s := by
  have last : wpAny (model prog w) A (pure ((n : Int) - 1, (-1 : Int), Builtin.Slice.slicePlaces ((n : Int) - 1) (-1) (-1))) Q E s := by
    rw [places_rev]
    exact wpAny_pure q
  obtain ⟨o, ho, _, fs⟩ := id hs
  unfold Builtin.Slice.sliceApplied; unfold Builtin.Slice.sliceFields
  refine wpAny_bind (wpAny_bind (wpAny_field ho fs (x := lo) rfl (wpAny_bind (wpAny_field ho fs (x := hi) rfl (wpAny_bind (wpAny_field ho fs (x := st) rfl (wpAny_pure (wpAny_bind (slicePart_ p3 ?_)))))))))
  show wpAny _ _ (if ((-1 : Int) == 0) = true then _ else _) _ _ s
  rw [if_neg (by decide)]
  exact wpAny_bind (slicePart_ p1 (wpAny_bind (slicePart_ p2 (wpAny_bind (wpAny_pure last)))))
theorem fm_congr {α β : Type} {f g : α → Option β} : ∀ l : List α, (∀ k ∈ l, f k = g k) → l.filterMap f = l.filterMap g
  | [], _ => rfl
  | k :: l, h => by
    rw [List.filterMap_cons, List.filterMap_cons, h k (List.mem_cons_self ..), fm_congr l fun x hx => h x (List.mem_cons_of_mem _ hx)]
theorem pick_rev (xs : Array Value) : ((List.range xs.size).filterMap fun (k : Nat) => xs[(((xs.size : Int) - 1) + (k : Int) * (-1)).toNat]?).toArray = xs.toList.reverse.toArray := by
  have e : (List.range xs.size).filterMap (fun (k : Nat) => xs[(((xs.size : Int) - 1) + (k : Int) * (-1)).toNat]?) = ((List.range xs.size).map fun k => xs.size - 1 - k).filterMap (xs[·]?) := by
    rw [List.filterMap_map]
    refine fm_congr _ fun k hk => ?_
    have hk := List.mem_range.mp hk
    show _ = xs[xs.size - 1 - k]?
    have : (((xs.size : Int) - 1) + (k : Int) * (-1)).toNat = xs.size - 1 - k := by omega
    rw [this]
  rw [e, PySem.W.krv_range, List.filterMap_reverse, PySem.W.krv_all]
theorem item_tuple_rev {t sl : Addr} {us : Array Value} {lo hi st : Value} {Q : Value → Shared → Prop} (ht : IsTup s.heap t us) (hs : s.heap.IsSliceOf sl lo hi st) (p1 : IsPart lo none) (p2 : IsPart hi none) (p3 : IsPart st (some (-1)))
    (small : us.size ≤ sizeLine) (q : Q (.ref s.heap.objs.size) { s with heap := s.heap.push { cls := .type "tuple", data := .seq us.toList.reverse.toArray } }) : wpAny (model prog w) A (getItem (.ref t) (.ref sl)) Q E s := by
  have fits : sizeOk (.seq us.toList.reverse.toArray) := (by rw [List.size_toArray, List.length_reverse, Array.length_toList]; exact small : us.toList.reverse.toArray.size ≤ sizeLine)
  have isS : s.TypeIs (.ref sl) "slice" := (id hs).elim fun o ⟨h1, h2, _⟩ => ⟨o, h1, h2⟩
  have off : ¬ ((((us.size : Int) - 1) == 0 && (-1 : Int) == 1 && us.size == us.size) = true) := by
    rw [show ((-1 : Int) == 1) = false by decide, Bool.and_false, Bool.false_and]
    exact Bool.false_ne_true
  unfold getItem
  (try with_reducible refine wpAny_holding ?_); (first | refine wpAny_bind (wpAny_pure ?_) | skip)
  refine wpAny_bind (wpAny_sequenceKey ht.typeIs (by decide) (wpAny_bind (wpAny_callSpecial?_slot (name := Str.ofString "__getitem__") ht.typeIs PyProof.Rows.slot_tuple_getitem (wpAny_call_entry PyProof.Rows.slot_tuple_getitem ht.typeIs entry_tuple_getitem ?_ (args_tuple_getitem _ _)))))
  refine (show wpAny _ _ (Builtin.Tuple.tupleItemsOf (.ref t) >>= _) _ _ s from wpAny_bind (tupleItemsOf_ ht (wpAny_bind (wpAny_typeOf isS ?_))))
  rw [if_pos (by decide)]
  refine wpAny_bind (applied_rev hs p1 p2 p3 ?_)
  show wpAny _ _ (if (((us.size : Int) - 1) == 0 && (-1 : Int) == 1 && us.size == us.size) = true then _ else _) _ _ s
  rw [if_neg off, pick_rev]
  first | exact wpAny_bind (m := Builtin.Tuple.tupleExact _) (wpAny_newObj_type (wpAny_pure ⟨_, rfl, wpAny_pure q⟩) fits) | exact wpAny_bind (m := Builtin.Tuple.tupleExact _) (wpAny_newObj_type (wpAny_bind (wpAny_pure (wpAny_pure ⟨_, rfl, wpAny_pure q⟩))) fits) | exact wpAny_bind (wpAny_bind (m := Builtin.Tuple.tupleExact _) (wpAny_newObj_type (wpAny_pure (wpAny_pure ⟨_, rfl, wpAny_pure q⟩)) fits)) | exact wpAny_bind (wpAny_bind (m := Builtin.Tuple.tupleExact _) (wpAny_newObj_type (wpAny_pure ⟨_, rfl, wpAny_pure q⟩) fits))
end
section
variable {X : Cx}
def tRevT (K : PySem.W.Frag) (te : TE) : TE := fun σ H Q => te σ H fun x H1 => ∃ a xs, x = .ref a ∧ SqT K H1 a xs ∧ ∀ p, H1 p = none → Q (.ref p) (upd H1 p (.tup xs.reverse))
theorem pe_revT {e : Expr} {te : TE} {k : Nat} {q1 q2 q3 pos : Pos} (he : PE X e te) : PE X (.Subscript e (.Slice none none (some (.UnaryOp .USub (.Constant (.int 1) k q1) q2)) q3) pos) (tRevT X.K te) := by
  constructor
  intro pins s σ H Q I rd
  have back : PO X (some (.UnaryOp .USub (.Constant (.int 1) k q1) q2)) (tPart (tUn (rU fun i => .int (-i)) (tC (.int 1)))) := po_some (pe_un un_neg pe_int)
  refine Subscript_ (thn (he.run pins s σ H _ I rd) fun v t1 ⟨x, G1, J1, rv, a, xs, ex, hx, q⟩ => ?_)
  subst ex; cases rv
  refine wpAny_Slice (thn (po_none.run pins t1 σ G1 (fun o G => o = none ∧ G = G1) J1 ⟨rfl, rfl⟩) fun lo t2 ⟨o1, G2, J2, p1, d1, e1⟩ => ?_)
  subst d1; subst e1
  refine thn (po_none.run pins t2 σ G2 (fun o G => o = none ∧ G = G2) J2 ⟨rfl, rfl⟩) fun hi t3 ⟨o2, G3, J3, p2, d2, e2⟩ => ?_
  subst d2; subst e2
  refine thn (back.run pins t3 σ G3 (fun o G => o = some (-1) ∧ G = G3) J3 ⟨1, rfl, -1, rfl, rfl, rfl⟩) fun st t4 ⟨o3, G4, J4, p3, d3, e3⟩ => ?_
  subst d3; subst e3
  have J5 : Inv X pins σ G4 { t4 with heap := t4.heap.push { cls := .type "slice", data := .fields #[lo, hi, st] } } := J4.kept (t' := t4.toks) fun _ _ z => Heap.get?_push_of_some _ z
  obtain ⟨us, rus, ht, small⟩ := J5.tuple hx
  have lus := rus.length
  refine (show wpAny (model X.prog X.w) X.A (subscriptTail e (.Slice none none (some (.UnaryOp .USub (.Constant (.int 1) k q1) q2)) q3) (.ref a) (.ref t4.heap.objs.size)) (EP X pins σ Q) X.xe { t4 with heap := t4.heap.push { cls := .type "slice", data := .fields #[lo, hi, st] } } from
    tail_any (ops := [.ref a, .ref t4.heap.objs.size]) ht.typeIs (PyProof.Rows.slot_tuple_getitem.lookup) (item_tuple_rev ht (Heap.IsSliceOf.new _ lo hi st) p1 p2 p3 (by rw [List.size_toArray]; omega) ?_) (by with_unfolding_all rfl))
  exact ⟨.ref _, _, J5.laid (t' := t4.toks) (o := .tup xs.reverse) (fun _ _ z => Heap.get?_push_of_some _ z) (Nat.le_refl _) ⟨by rw [List.length_reverse]; exact small, _, rus.reverse, IsTup.new _ _⟩, rfl, q _ (J5.hok.fresh (Nat.le_refl _))⟩
end
end L2
namespace Ms
open PySem PySem.Spec PyProof.Rows L2
/-! ### _law_odd -/
def odds : List PyData := [.none, .int 0, .int 1, .int 2, .int 4, .int (-1), .int 100, .bool true, .bool false, .str "", .str "a", .str "abcdefghi", .str "A", .str "end", .str "live", .tuple [], .tuple [.tuple []], .tuple [.str "a", .int 1], .list [], .dict [], .int (10 ^ (30 : Int).toNat), .tuple [.str "end"], .tuple [.tuple [.str "end"]], .str "begin", .str "a1", .tuple [.str "do", .str "a", .int 0]]
theorem odds_good : odds.all (gdB big 128 2) = true := by decide +kernel
section
variable {P : Program} {w : World} {K : PySem.W.Frag} {mg : Str → Option Value} {base : Heap} {fN fM : Addr}
theorem scOd : FnScope ["m", "some"] ["m"] (defScope sOdd) := ⟨rfl, rfl, rfl, by decide +kernel, rfl, by decide +kernel, by decide +kernel⟩
def spOdd (K : PySem.W.Frag) : Sp := fun vs H Q _ => ∃ (m l : Addr) (n : Nat), vs = [.ref m] ∧ Mch H m l n ∧ n < 900000 ∧
  ∀ (v : V) (d : PyData) (l' : Addr) (H' : Hp), Dq K H' m l' v d → Gd big 128 2 d → Mch H' m l' (n + 1) → Fr m l l' H H' → Q v H'
theorem ok_odd {f : Addr} {fd fdN : FuncData} (F : Fun K "_law_odd" "_law_odd" sOdd f fd) (T : TxtS mg fN fM) (FN : Fun K "_law_next" "_law_next" sNext fN fdN) (bN : Binds K fdN ["m", "many"] []) : FnOk P w K mg base CX0 2 f fd ["m"] (spOdd K) := by
  have GN : FnOk P w K mg base CX0 1 fN fdN ["m", "many"] spNext := ok_next FN T.toTxt
  refine F.ok scOd (fun vs H Q E h => ?_) (fun cdv A outer s H vs Q E hr h => ?_)
  · obtain ⟨m, l, n, rfl, _⟩ := h
    rfl
  · obtain ⟨m, l, n, rfl, M, hn, q⟩ := h
    refine ⟨_, pss_cons (ps_set (i := 1) scOd.nd rfl (by first | exact Or.inl rfl | exact Or.inr rfl) (pe_lst (pa_cons pe_non (pa_cons pe_int (pa_cons pe_int (pa_cons pe_int (pa_cons pe_int (pa_cons (pe_un un_neg pe_int) (pa_cons pe_int (pa_cons pe_bl (pa_cons pe_bl (pa_cons pe_str (pa_cons pe_str (pa_cons pe_str (pa_cons pe_str (pa_cons pe_str (pa_cons pe_str (pa_cons (pe_tup pa_nil) (pa_cons (pe_tup (pa_cons (pe_tup pa_nil) pa_nil)) (pa_cons (pe_tup (pa_cons pe_str (pa_cons pe_int pa_nil))) pa_nil))))))))))))))))))))
      (pss_one (ps_ret (pe_ix ix_list (pe_op op_cat (pv 1) (pe_lst (pa_cons (pe_lst pa_nil) (pa_cons pe_dnewK (pa_cons (pe_op op_pow pe_int pe_int) (pa_cons (pe_tup (pa_cons pe_str pa_nil)) (pa_cons (pe_tup (pa_cons (pe_tup (pa_cons pe_str pa_nil)) pa_nil)) (pa_cons pe_str (pa_cons pe_str (pa_cons (pe_tup (pa_cons pe_str (pa_cons pe_str (pa_cons pe_int pa_nil)))) pa_nil))))))))))
        (pe_call GN hr rfl T.next FN.kp bN .nil pass0 (pa_cons (pv 0) (pa_cons pe_int pa_nil))) (fun _ _ => rfl)))), ?_⟩
    refine ⟨_, rfl, ?_⟩
    refine ⟨Nat.zero_le _, fun p1 hp1 => ?_⟩
    obtain ⟨G1, e1⟩ : ∃ G, G = upd H p1 (.tup []) := ⟨_, rfl⟩
    rw [← e1]
    have s : Same H G1 := e1 ▸ Same.upd hp1
    have np1 := M.ne hp1
    have M1 := M.same s
    have f1 : Fr m l l H G1 := e1 ▸ (Fr.refl M).junk hp1
    have kp1 : G1 p1 = some (.tup []) := by rw [e1, upd_same]
    clear s e1
    refine ⟨Nat.zero_le _, fun p2 hp2 => ?_⟩
    obtain ⟨G2, e2⟩ : ∃ G, G = upd G1 p2 (.tup []) := ⟨_, rfl⟩
    rw [← e2]
    have s : Same G1 G2 := e2 ▸ Same.upd hp2
    have np2 := M1.ne hp2
    have M2 := M1.same s
    have f2 : Fr m l l H G2 := e2 ▸ f1.junk hp2
    replace kp1 := s _ _ kp1
    have kp2 : G2 p2 = some (.tup []) := by rw [e2, upd_same]
    clear s e2
    refine ⟨(by show 1 ≤ sizeLine; decide), fun p3 hp3 => ?_⟩
    obtain ⟨G3, e3⟩ : ∃ G, G = upd G2 p3 (.tup [.ref p2]) := ⟨_, rfl⟩
    rw [← e3]
    have s : Same G2 G3 := e3 ▸ Same.upd hp3
    have np3 := M2.ne hp3
    have M3 := M2.same s
    have f3 : Fr m l l H G3 := e3 ▸ f2.junk hp3
    replace kp1 := s _ _ kp1
    replace kp2 := s _ _ kp2
    have kp3 : G3 p3 = some (.tup [.ref p2]) := by rw [e3, upd_same]
    clear s e3
    refine ⟨(by show 2 ≤ sizeLine; decide), fun p4 hp4 => ?_⟩
    obtain ⟨G4, e4⟩ : ∃ G, G = upd G3 p4 (.tup [.str "a", .int 1]) := ⟨_, rfl⟩
    rw [← e4]
    have s : Same G3 G4 := e4 ▸ Same.upd hp4
    have np4 := M3.ne hp4
    have M4 := M3.same s
    have f4 : Fr m l l H G4 := e4 ▸ f3.junk hp4
    replace kp1 := s _ _ kp1
    replace kp2 := s _ _ kp2
    replace kp3 := s _ _ kp3
    have kp4 : G4 p4 = some (.tup [.str "a", .int 1]) := by rw [e4, upd_same]
    clear s e4
    refine ⟨(by show 18 ≤ sizeLine; decide), fun L1 hL1 => ?_⟩
    obtain ⟨G5, e5⟩ : ∃ G, G = upd G4 L1 (.lst [.non, .int 0, .int 1, .int 2, .int 4, .int (-1), .int 100, .bl true, .bl false, .str "", .str "a", .str "abcdefghi", .str "A", .str "end", .str "live", .ref p1, .ref p3, .ref p4]) := ⟨_, rfl⟩
    rw [← e5]
    have s : Same G4 G5 := e5 ▸ Same.upd hL1
    have nL1 := M4.ne hL1
    have M5 := M4.same s
    have f5 : Fr m l l H G5 := e5 ▸ f4.junk hL1
    replace kp1 := s _ _ kp1
    replace kp2 := s _ _ kp2
    replace kp3 := s _ _ kp3
    replace kp4 := s _ _ kp4
    have kL1 : G5 L1 = some (.lst [.non, .int 0, .int 1, .int 2, .int 4, .int (-1), .int 100, .bl true, .bl false, .str "", .str "a", .str "abcdefghi", .str "A", .str "end", .str "live", .ref p1, .ref p3, .ref p4]) := by rw [e5, upd_same]
    clear s e5
    refine ⟨_, rfl, ?_⟩
    refine ⟨Nat.zero_le _, fun p5 hp5 => ?_⟩
    obtain ⟨G6, e6⟩ : ∃ G, G = upd G5 p5 (.lst []) := ⟨_, rfl⟩
    rw [← e6]
    have s : Same G5 G6 := e6 ▸ Same.upd hp5
    have np5 := M5.ne hp5
    have M6 := M5.same s
    have f6 : Fr m l l H G6 := e6 ▸ f5.junk hp5
    replace kp1 := s _ _ kp1
    replace kp2 := s _ _ kp2
    replace kp3 := s _ _ kp3
    replace kp4 := s _ _ kp4
    replace kL1 := s _ _ kL1
    have kp5 : G6 p5 = some (.lst []) := by rw [e6, upd_same]
    clear s e6
    intro p6 hp6
    obtain ⟨G7, e7⟩ : ∃ G, G = upd G6 p6 (.dK []) := ⟨_, rfl⟩
    rw [← e7]
    have s : Same G6 G7 := e7 ▸ Same.upd hp6
    have np6 := M6.ne hp6
    have M7 := M6.same s
    have f7 : Fr m l l H G7 := e7 ▸ f6.junk hp6
    replace kp1 := s _ _ kp1
    replace kp2 := s _ _ kp2
    replace kp3 := s _ _ kp3
    replace kp4 := s _ _ kp4
    replace kL1 := s _ _ kL1
    replace kp5 := s _ _ kp5
    have kp6 : G7 p6 = some (.dK []) := by rw [e7, upd_same]
    clear s e7
    refine ⟨_, _, rfl, rfl, ⟨by decide, by decide, by decide⟩, ?_⟩
    refine ⟨(by show 1 ≤ sizeLine; decide), fun p7 hp7 => ?_⟩
    obtain ⟨G8, e8⟩ : ∃ G, G = upd G7 p7 (.tup [.str "end"]) := ⟨_, rfl⟩
    rw [← e8]
    have s : Same G7 G8 := e8 ▸ Same.upd hp7
    have np7 := M7.ne hp7
    have M8 := M7.same s
    have f8 : Fr m l l H G8 := e8 ▸ f7.junk hp7
    replace kp1 := s _ _ kp1
    replace kp2 := s _ _ kp2
    replace kp3 := s _ _ kp3
    replace kp4 := s _ _ kp4
    replace kL1 := s _ _ kL1
    replace kp5 := s _ _ kp5
    replace kp6 := s _ _ kp6
    have kp7 : G8 p7 = some (.tup [.str "end"]) := by rw [e8, upd_same]
    clear s e8
    refine ⟨(by show 1 ≤ sizeLine; decide), fun p8 hp8 => ?_⟩
    obtain ⟨G9, e9⟩ : ∃ G, G = upd G8 p8 (.tup [.str "end"]) := ⟨_, rfl⟩
    rw [← e9]
    have s : Same G8 G9 := e9 ▸ Same.upd hp8
    have np8 := M8.ne hp8
    have M9 := M8.same s
    have f9 : Fr m l l H G9 := e9 ▸ f8.junk hp8
    replace kp1 := s _ _ kp1
    replace kp2 := s _ _ kp2
    replace kp3 := s _ _ kp3
    replace kp4 := s _ _ kp4
    replace kL1 := s _ _ kL1
    replace kp5 := s _ _ kp5
    replace kp6 := s _ _ kp6
    replace kp7 := s _ _ kp7
    have kp8 : G9 p8 = some (.tup [.str "end"]) := by rw [e9, upd_same]
    clear s e9
    refine ⟨(by show 1 ≤ sizeLine; decide), fun p9 hp9 => ?_⟩
    obtain ⟨G10, e10⟩ : ∃ G, G = upd G9 p9 (.tup [.ref p8]) := ⟨_, rfl⟩
    rw [← e10]
    have s : Same G9 G10 := e10 ▸ Same.upd hp9
    have np9 := M9.ne hp9
    have M10 := M9.same s
    have f10 : Fr m l l H G10 := e10 ▸ f9.junk hp9
    replace kp1 := s _ _ kp1
    replace kp2 := s _ _ kp2
    replace kp3 := s _ _ kp3
    replace kp4 := s _ _ kp4
    replace kL1 := s _ _ kL1
    replace kp5 := s _ _ kp5
    replace kp6 := s _ _ kp6
    replace kp7 := s _ _ kp7
    replace kp8 := s _ _ kp8
    have kp9 : G10 p9 = some (.tup [.ref p8]) := by rw [e10, upd_same]
    clear s e10
    refine ⟨(by show 3 ≤ sizeLine; decide), fun p10 hp10 => ?_⟩
    obtain ⟨G11, e11⟩ : ∃ G, G = upd G10 p10 (.tup [.str "do", .str "a", .int 0]) := ⟨_, rfl⟩
    rw [← e11]
    have s : Same G10 G11 := e11 ▸ Same.upd hp10
    have np10 := M10.ne hp10
    have M11 := M10.same s
    have f11 : Fr m l l H G11 := e11 ▸ f10.junk hp10
    replace kp1 := s _ _ kp1
    replace kp2 := s _ _ kp2
    replace kp3 := s _ _ kp3
    replace kp4 := s _ _ kp4
    replace kL1 := s _ _ kL1
    replace kp5 := s _ _ kp5
    replace kp6 := s _ _ kp6
    replace kp7 := s _ _ kp7
    replace kp8 := s _ _ kp8
    replace kp9 := s _ _ kp9
    have kp10 : G11 p10 = some (.tup [.str "do", .str "a", .int 0]) := by rw [e11, upd_same]
    clear s e11
    refine ⟨(by show 8 ≤ sizeLine; decide), fun L2 hL2 => ?_⟩
    obtain ⟨G12, e12⟩ : ∃ G, G = upd G11 L2 (.lst [.ref p5, .ref p6, .int (10 ^ (30 : Int).toNat), .ref p7, .ref p9, .str "begin", .str "a1", .ref p10]) := ⟨_, rfl⟩
    rw [← e12]
    have s : Same G11 G12 := e12 ▸ Same.upd hL2
    have nL2 := M11.ne hL2
    have M12 := M11.same s
    have f12 : Fr m l l H G12 := e12 ▸ f11.junk hL2
    replace kp1 := s _ _ kp1
    replace kp2 := s _ _ kp2
    replace kp3 := s _ _ kp3
    replace kp4 := s _ _ kp4
    replace kL1 := s _ _ kL1
    replace kp5 := s _ _ kp5
    replace kp6 := s _ _ kp6
    replace kp7 := s _ _ kp7
    replace kp8 := s _ _ kp8
    replace kp9 := s _ _ kp9
    replace kp10 := s _ _ kp10
    have kL2 : G12 L2 = some (.lst [.ref p5, .ref p6, .int (10 ^ (30 : Int).toNat), .ref p7, .ref p9, .str "begin", .str "a1", .ref p10]) := by rw [e12, upd_same]
    clear s e12
    refine ⟨L1, L2, _, _, rfl, rfl, kL1, kL2, (by show 26 ≤ sizeLine; decide), fun L3 hL3 => ?_⟩
    obtain ⟨G13, e13⟩ : ∃ G, G = upd G12 L3 (.lst [.non, .int 0, .int 1, .int 2, .int 4, .int (-1), .int 100, .bl true, .bl false, .str "", .str "a", .str "abcdefghi", .str "A", .str "end", .str "live", .ref p1, .ref p3, .ref p4, .ref p5, .ref p6, .int (10 ^ (30 : Int).toNat), .ref p7, .ref p9, .str "begin", .str "a1", .ref p10]) := ⟨_, rfl⟩
    have e13' : upd G12 L3 (.lst (([.non, .int 0, .int 1, .int 2, .int 4, .int (-1), .int 100, .bl true, .bl false, .str "", .str "a", .str "abcdefghi", .str "A", .str "end", .str "live", .ref p1, .ref p3, .ref p4] : List V) ++ [.ref p5, .ref p6, .int (10 ^ (30 : Int).toNat), .ref p7, .ref p9, .str "begin", .str "a1", .ref p10])) = G13 := e13.symm
    rw [e13']
    have s : Same G12 G13 := e13 ▸ Same.upd hL3
    have nL3 := M12.ne hL3
    have M13 := M12.same s
    have f13 : Fr m l l H G13 := e13 ▸ f12.junk hL3
    replace kp1 := s _ _ kp1
    replace kp2 := s _ _ kp2
    replace kp3 := s _ _ kp3
    replace kp4 := s _ _ kp4
    replace kL1 := s _ _ kL1
    replace kp5 := s _ _ kp5
    replace kp6 := s _ _ kp6
    replace kp7 := s _ _ kp7
    replace kp8 := s _ _ kp8
    replace kp9 := s _ _ kp9
    replace kp10 := s _ _ kp10
    replace kL2 := s _ _ kL2
    have kL3 : G13 L3 = some (.lst [.non, .int 0, .int 1, .int 2, .int 4, .int (-1), .int 100, .bl true, .bl false, .str "", .str "a", .str "abcdefghi", .str "A", .str "end", .str "live", .ref p1, .ref p3, .ref p4, .ref p5, .ref p6, .int (10 ^ (30 : Int).toNat), .ref p7, .ref p9, .str "begin", .str "a1", .ref p10]) := by rw [e13, upd_same]
    clear s e13 e13'
    have D : DqAll K G13 m l [.non, .int 0, .int 1, .int 2, .int 4, .int (-1), .int 100, .bl true, .bl false, .str "", .str "a", .str "abcdefghi", .str "A", .str "end", .str "live", .ref p1, .ref p3, .ref p4, .ref p5, .ref p6, .int (10 ^ (30 : Int).toNat), .ref p7, .ref p9, .str "begin", .str "a1", .ref p10] odds :=
      (.cons (.non) (.cons (.int _) (.cons (.int _) (.cons (.int _) (.cons (.int _) (.cons (.int _) (.cons (.int _) (.cons (.bl _) (.cons (.bl _) (.cons (.str _) (.cons (.str _) (.cons (.str _) (.cons (.str _) (.cons (.str _) (.cons (.str _) (.cons (.tup (.inl (.inl kp1)) .nil) (.cons (.tup (.inl (.inl kp3)) (.cons (.tup (.inl (.inl kp2)) .nil) .nil)) (.cons (.tup (.inl (.inl kp4)) (.cons (.str _) (.cons (.int _) .nil))) (.cons (.lst kp5 np5.1 np5.2 .nil) (.cons (.dct kp6 np6.1 np6.2) (.cons (.int _) (.cons (.tup (.inl (.inl kp7)) (.cons (.str _) .nil)) (.cons (.tup (.inl (.inl kp9)) (.cons (.tup (.inl (.inl kp8)) (.cons (.str _) .nil)) .nil)) (.cons (.str _) (.cons (.str _) (.cons (.tup (.inl (.inl kp10)) (.cons (.str _) (.cons (.str _) (.cons (.int _) .nil)))) .nil))))))))))))))))))))))))))
    have kd := M13.step (l' := l) (Fr.refl M13)
    clear kL1 kL2 kp1 kp2 kp3 kp4 kp5 kp6 kp7 kp8 kp9 kp10
    refine ⟨_, rfl, m, l, n, 26, rfl, M13, by omega, by decide, by decide, fun r l' H' r0 r1 M' f => ?_⟩
    obtain ⟨rn, rfl⟩ : ∃ rn : Nat, r = (rn : Int) := ⟨r.toNat, by omega⟩
    obtain ⟨vs, hvs⟩ : ∃ vs : List V, vs = [.non, .int 0, .int 1, .int 2, .int 4, .int (-1), .int 100, .bl true, .bl false, .str "", .str "a", .str "abcdefghi", .str "A", .str "end", .str "live", .ref p1, .ref p3, .ref p4, .ref p5, .ref p6, .int (10 ^ (30 : Int).toNat), .ref p7, .ref p9, .str "begin", .str "a1", .ref p10] := ⟨_, rfl⟩
    rw [← hvs] at D kL3
    have lv : vs.length = 26 := by rw [hvs]; rfl
    obtain ⟨v, hv⟩ : ∃ v, vs[rn]? = some v := ⟨_, List.getElem?_eq_getElem (by rw [lv]; omega)⟩
    obtain ⟨d, hd, dq⟩ := D.get hv
    have gd : Gd big 128 2 d := gd_of (List.all_eq_true.mp odds_good d (List.mem_of_getElem? hd))
    refine ⟨L3, _, (rn : Int), v, rfl, rfl, SqL.of (f.keep L3 _ kL3 nL3.1 nL3.2), atI_nat hv, ?_⟩
    exact q v d l' H' (Dq.step (M13.step f) d v dq) gd M' (f13.trans f)
end
end Ms
namespace Ms
open PySem PySem.Spec PyProof.Rows L2
structure TxtB (mg : Str → Option Value) (fN fM fO fB : Addr) : Prop extends TxtS mg fN fM where
  odd : mg "_law_odd" = some (.ref fO)
  bent : mg "_law_bent" = some (.ref fB)
  isi : mg "isinstance" = none
  str : mg "str" = none
  bool : mg "bool" = none
def spBent (K : PySem.W.Frag) : Nat → Sp
  | 0 => fun _ _ _ _ => False
  | k + 1 => fun vs H Q _ => ∃ (m l : Addr) (n : Nat) (v : V) (d : PyData) (B a b : Nat), vs = [.ref m, v] ∧ Mch H m l n ∧ n + 8 * (k + 1) < 700000 ∧ Dq K H m l v d ∧ Gd B a b d ∧ big ≤ B ∧ B + 100 ≤ 10 ^ 31 ∧ a ≤ 50000 ∧ d.depth ≤ k ∧
    ∀ (v' : V) (d' : PyData) (l' : Addr) (H' : Hp), Dq K H' m l' v' d' → Gd (B + 100) (2 * a + 200) (b + 2) d' → Mch H' m l' (n + 8 * (k + 1)) → Fr m l l' H H' → Q v' H'
abbrev NB : List Str := ["m", "thing", "at", "way"]
theorem scBe : FnScope NB ["m", "thing"] (defScope sBent) := ⟨rfl, rfl, rfl, by decide +kernel, rfl, by decide +kernel, by decide +kernel⟩
theorem mul_small {z : Str} (h : z.length ≤ 50000) : PySem.MulOk z 2 := ⟨by decide, fun _ _ => by
    have e : ((2 : Int) ^ 63 - 1) / 2 = 4611686018427387903 := by decide
    rw [e]; omega, fun _ _ => by
    show decide (z.length * 2 > sizeLine) = false
    rw [decide_eq_false_iff_not, sizeLine_eq]
    omega⟩
section
variable {P : Program} {w : World} {K : PySem.W.Frag} {mg : Str → Option Value} {base : Heap} {fN fM fO fB : Addr}
theorem bent_step {k : Nat} {fd fdN fdO : FuncData} (F : Fun K "_law_bent" "_law_bent" sBent fB fd) (bB : Binds K fd ["m", "thing"] []) (T : TxtB mg fN fM fO fB) (FN : Fun K "_law_next" "_law_next" sNext fN fdN) (bN : Binds K fdN ["m", "many"] [])
    (FO : Fun K "_law_odd" "_law_odd" sOdd fO fdO) (bO : Binds K fdO ["m"] []) (GB : FnOk P w K mg base CX0 (k + 2) fB fd ["m", "thing"] (spBent K k)) : FnOk P w K mg base CX0 (k + 3) fB fd ["m", "thing"] (spBent K (k + 1)) := by
  have GN : FnOk P w K mg base CX0 (k + 2) fN fdN ["m", "many"] spNext := (ok_next FN T.toTxt).mono (by omega)
  have GO : FnOk P w K mg base CX0 (k + 2) fO fdO ["m"] (spOdd K) := (ok_odd FO T.toTxtS FN bN).mono (by omega)
  refine F.ok scBe (fun vs H Q E h => ?_) (fun cdv A outer s H vs Q E hr h => ?_)
  · obtain ⟨m, l, n, v, d, B, a, b, rfl, _⟩ := h
    rfl
  obtain ⟨m, l, n, v, d, B, a, b, rfl, M, hn, hd, gd, hB, hB2, ha, hk, q⟩ := h
  have hu := hu_of hr
  have lenOk : ∀ c : Nat, c ≤ 100400 → c ≤ sizeLine := fun c h => by rw [sizeLine_eq]; omega
  have tupOk : ∀ (ds : List PyData), d = .tuple ds → ∃ c, b = c + 1 ∧ Gl' B a c ds ∧ PyData.weightAll ds ≤ a := fun ds e => by
    obtain ⟨c, e1, g⟩ := Gd.untup (e ▸ gd)
    exact ⟨c, e1, g, g.wt⟩
  have st5 : ∃ t, PSs (cxOf CX0 P w K mg base NB "_law_bent" (defScope sBent) fB cdv A outer s H E).nox ((defBody sBent).drop 9) t ∧ ∀ (p : Addr) (xs : List V) (ds : List PyData) (i : Nat) (way : Int) (l1 : Addr) (n1 : Nat) (H1 : Hp), d = .tuple ds → SqT K H1 p xs → DqAll K H1 m l1 xs ds → i < xs.length → Mch H1 m l1 n1 → n1 ≤ n + 5 → Fr m l l1 H H1 → t ({ nx := fun _ H' => Q .non H', rt := Q } : Ends) [some (.ref m), some (.ref p), some (.int (i : Int)), some (.int way)] H1 := by
    refine ⟨_, pss_one (ps_ret (pe_op op_catA (pe_op op_catA (pe_slice sl_tupA (pv 1) po_none (po_some (pv 2))) (pe_tup (pa_cons (pe_call GB hr rfl T.bent F.kp bB .nil pass0 (pa_cons (pv 0) (pa_cons (pe_ix ix_tup (pv 1) (pv 2) (fun _ _ => rfl)) pa_nil))) pa_nil))) (pe_slice sl_tupA (pv 1) (po_some (pe_op op_add (pv 2) pe_int)) po_none))), ?_⟩
    intro p xs ds i way l1 n1 H1 ed hp hx hi M1 h1 f1
    obtain ⟨c, eb, g, gw⟩ := tupOk ds ed
    have lx := hx.len
    have ls := wA_len ds
    cases k with
    | zero =>
      rw [ed] at hk
      simp only [PyData.depth] at hk
      omega
    | succ k' =>
    obtain ⟨e, he⟩ : ∃ e, ds[i]? = some e := ⟨_, List.getElem?_eq_getElem (by omega)⟩
    obtain ⟨u, hui⟩ : ∃ u, xs[i]? = some u := ⟨_, List.getElem?_eq_getElem hi⟩
    have ge := g.at he
    have wat := wA_at he
    have dk : e.depth ≤ k' := by
      rw [ed] at hk
      simp only [PyData.depth] at hk
      exact dA_iff.mp (by omega) e (List.mem_of_getElem? he)
    refine ⟨_, rfl, _, rfl, _, rfl, slA_any hp fun p1 H2 s2 c2 => ?_⟩
    rw [cut_to (by omega)] at c2
    have k2 := M1.kept s2
    have hx2 := DqAll.step k2 ds xs hx
    obtain ⟨e', he', dqe⟩ := hx2.get hui
    have ee : e' = e := Option.some.inj (he'.symm.trans he)
    subst ee
    refine ⟨_, rfl, _, rfl, _, rfl, p, xs, _, u, rfl, rfl, Same.seqT s2 hp, atI_nat hui, m, l1, n1, u, e', B, e'.weight, c, rfl, M1.same s2, by omega, dqe, ge, hB, hB2, by omega, dk, fun v2 d2 l2 H3 dq2 gd2 M3 f3 => ?_⟩
    refine ⟨(by show 1 ≤ sizeLine; decide), fun p3 h3 => ?_⟩
    have k3 := (M1.same s2).step f3
    have s4 : Same H3 (upd H3 p3 (.tup [v2])) := Same.upd h3
    refine catA_any (Same.seqT s4 (k3.tup c2)) (.inl (.inl upd_same)) (lenOk _ (by simp; omega)) fun p4 H5 s5 c5 => ?_
    have hp5 : SqT K H5 p xs := Same.seqT s5 (Same.seqT s4 (k3.tup (Same.seqT s2 hp)))
    refine ⟨_, rfl, _, rfl, _, _, rfl, rfl, _, rfl, ?_⟩
    refine noPart ?_
    refine slA_any hp5 fun p6 H6 s6 c6 => ?_
    rw [cut_from1 hi] at c6
    refine catA_any (Same.seqT s6 c5) c6 (lenOk _ (by simp; omega)) fun p7 H7 s7 c7 => ?_
    have s37 := ((s4.trans s5).trans s6).trans s7
    have F7 := (Fr.lead s2 f3).trail s37
    have hx7 := DqAll.step (M1.step F7) ds xs hx
    have dq7 := Dq.step (M3.kept s37) d2 v2 dq2
    refine q (.ref p7) (.tuple ((ds.take i ++ [d2]) ++ ds.drop (i + 1))) l2 H7 (.tup c7 (((hx7.take i).app (.cons dq7 .nil)).app (hx7.drop (i + 1)))) ?_ ((M3.same s37).mono (by omega)) (f1.trans F7)
    rw [eb]
    exact Gd.tup (((((g.tk i).mono (by omega) (Nat.le_refl _) (by omega)).app (Gl'.one gd2)).app ((g.dr (i + 1)).mono (by omega) (Nat.le_refl _) (by omega))).mono (Nat.le_refl _) (by omega) (Nat.le_refl _))
  have st4 : ∃ t, PSs (cxOf CX0 P w K mg base NB "_law_bent" (defScope sBent) fB cdv A outer s H E).nox ((defBody sBent).drop 8) t ∧ ∀ (p : Addr) (xs : List V) (ds : List PyData) (i : Nat) (way : Int) (l1 : Addr) (n1 : Nat) (H1 : Hp), d = .tuple ds → SqT K H1 p xs → DqAll K H1 m l1 xs ds → i < xs.length → Mch H1 m l1 n1 → n1 ≤ n + 5 → Fr m l l1 H H1 → t ({ nx := fun _ H' => Q .non H', rt := Q } : Ends) [some (.ref m), some (.ref p), some (.int (i : Int)), some (.int way)] H1 := by
    obtain ⟨t5, d5, z5⟩ := st5
    refine ⟨_, pss_cons (ps_if (pt_cmpR op_eq (pv 3) pe_int (nomark _)) (pss_one (ps_ret (pe_revT (pv 1)))) pss_nil) d5, ?_⟩
    intro p xs ds i way l1 n1 H1 ed hp hx hi M1 h1 f1
    refine ⟨_, rfl, rfl, _, rfl, ite_b (fun e => ?_) (fun _ => z5 p xs ds i way l1 n1 H1 ed hp hx hi M1 h1 f1)⟩
    obtain ⟨c, eb, g, gw⟩ := tupOk ds ed
    have lx := hx.len
    have ls := wA_len ds
    refine ⟨_, rfl, p, xs, rfl, hp, fun p7 h7 => ?_⟩
    have s17 : Same H1 (upd H1 p7 (.tup xs.reverse)) := Same.upd h7
    have hx7 := DqAll.step (M1.kept s17) ds xs hx
    refine q (.ref p7) (.tuple ds.reverse) l1 _ (.tup (.inl (.inl upd_same)) hx7.rev) ?_ ((M1.same s17).mono (by omega)) (f1.trail s17)
    rw [eb]
    exact (Gd.tup g.rv).mono (by omega) (by omega) (by omega)
  have st3 : ∃ t, PSs (cxOf CX0 P w K mg base NB "_law_bent" (defScope sBent) fB cdv A outer s H E).nox ((defBody sBent).drop 7) t ∧ ∀ (p : Addr) (xs : List V) (ds : List PyData) (i : Nat) (way : Int) (l1 : Addr) (n1 : Nat) (H1 : Hp), d = .tuple ds → SqT K H1 p xs → DqAll K H1 m l1 xs ds → i < xs.length → Mch H1 m l1 n1 → n1 ≤ n + 5 → Fr m l l1 H H1 → t ({ nx := fun _ H' => Q .non H', rt := Q } : Ends) [some (.ref m), some (.ref p), some (.int (i : Int)), some (.int way)] H1 := by
    obtain ⟨t4, d4, z4⟩ := st4
    refine ⟨_, pss_cons (ps_if (pt_cmpR op_eq (pv 3) pe_int (nomark _)) (pss_one (ps_ret (pe_op op_catA (pe_op op_catA (pe_slice sl_tupA (pv 1) po_none (po_some (pv 2))) (pe_tup (pa_cons (pe_call GO hr rfl T.odd FO.kp bO .nil pass0 (pa_cons (pv 0) pa_nil)) pa_nil))) (pe_slice sl_tupA (pv 1) (po_some (pv 2)) po_none)))) pss_nil) d4, ?_⟩
    intro p xs ds i way l1 n1 H1 ed hp hx hi M1 h1 f1
    refine ⟨_, rfl, rfl, _, rfl, ite_b (fun e => ?_) (fun _ => z4 p xs ds i way l1 n1 H1 ed hp hx hi M1 h1 f1)⟩
    obtain ⟨c, eb, g, gw⟩ := tupOk ds ed
    have lx := hx.len
    have ls := wA_len ds
    refine ⟨_, rfl, _, rfl, _, rfl, slA_any hp fun p1 H2 s2 c2 => ?_⟩
    rw [cut_to (by omega)] at c2
    have k2 := M1.kept s2
    refine ⟨_, rfl, m, l1, n1, rfl, M1.same s2, by omega, fun v2 d2 l2 H3 dq2 gd2 M3 f3 => ?_⟩
    refine ⟨(by show 1 ≤ sizeLine; decide), fun p3 h3 => ?_⟩
    have k3 := (M1.same s2).step f3
    have s4 : Same H3 (upd H3 p3 (.tup [v2])) := Same.upd h3
    refine catA_any (Same.seqT s4 (k3.tup c2)) (.inl (.inl upd_same)) (lenOk _ (by simp; omega)) fun p4 H5 s5 c5 => ?_
    have hp5 : SqT K H5 p xs := Same.seqT s5 (Same.seqT s4 (k3.tup (Same.seqT s2 hp)))
    refine ⟨_, rfl, _, rfl, _, rfl, ?_⟩
    refine noPart ?_
    refine slA_any hp5 fun p6 H6 s6 c6 => ?_
    rw [cut_from (by omega)] at c6
    refine catA_any (Same.seqT s6 c5) c6 (lenOk _ (by simp; omega)) fun p7 H7 s7 c7 => ?_
    have s37 := ((s4.trans s5).trans s6).trans s7
    have F7 := (Fr.lead s2 f3).trail s37
    have hx7 := DqAll.step (M1.step F7) ds xs hx
    have dq7 := Dq.step (M3.kept s37) d2 v2 dq2
    have wsp := wA_split ds i
    refine q (.ref p7) (.tuple ((ds.take i ++ [d2]) ++ ds.drop i)) l2 H7 (.tup c7 (((hx7.take i).app (.cons dq7 .nil)).app (hx7.drop i))) ?_ ((M3.same s37).mono (by omega)) (f1.trans F7)
    rw [eb]
    exact Gd.tup (((((g.tk i).mono (B' := B + 100) (c' := c + 2) (by omega) (Nat.le_refl _) (by omega)).app (Gl'.one (gd2.mono (by omega) (Nat.le_refl _) (by omega)))).app ((g.dr i).mono (by omega) (Nat.le_refl _) (by omega))).mono (Nat.le_refl _) (by omega) (Nat.le_refl _))
  have st2 : ∃ t, PSs (cxOf CX0 P w K mg base NB "_law_bent" (defScope sBent) fB cdv A outer s H E).nox ((defBody sBent).drop 6) t ∧ ∀ (p : Addr) (xs : List V) (ds : List PyData) (i : Nat) (way : Int) (l1 : Addr) (n1 : Nat) (H1 : Hp), d = .tuple ds → SqT K H1 p xs → DqAll K H1 m l1 xs ds → i < xs.length → Mch H1 m l1 n1 → n1 ≤ n + 5 → Fr m l l1 H H1 → t ({ nx := fun _ H' => Q .non H', rt := Q } : Ends) [some (.ref m), some (.ref p), some (.int (i : Int)), some (.int way)] H1 := by
    obtain ⟨t3, d3, z3⟩ := st3
    refine ⟨_, pss_cons (ps_if (pt_cmpR op_eq (pv 3) pe_int (nomark _)) (pss_one (ps_ret (pe_callTy call_list_of (by rfl) T.list (by decide +kernel) (pa_cons (pv 1) pa_nil)))) pss_nil) d3, ?_⟩
    intro p xs ds i way l1 n1 H1 ed hp hx hi M1 h1 f1
    refine ⟨_, rfl, rfl, _, rfl, ite_b (fun e => ?_) (fun _ => z3 p xs ds i way l1 n1 H1 ed hp hx hi M1 h1 f1)⟩
    obtain ⟨c, eb, g, gw⟩ := tupOk ds ed
    have lx := hx.len
    have ls := wA_len ds
    refine ⟨_, rfl, p, xs, rfl, .inr hp, fun p7 h7 => ?_⟩
    have s17 : Same H1 (upd H1 p7 (.lst xs)) := Same.upd h7
    have n7 := M1.ne h7
    have hx7 := DqAll.step (M1.kept s17) ds xs hx
    refine q (.ref p7) (.list ds) l1 _ (.lst upd_same n7.1 n7.2 hx7) ?_ ((M1.same s17).mono (by omega)) (f1.trail s17)
    rw [eb]
    exact (Gd.lst g).mono (by omega) (by omega) (by omega)
  have st1 : ∃ t, PSs (cxOf CX0 P w K mg base NB "_law_bent" (defScope sBent) fB cdv A outer s H E).nox ((defBody sBent).drop 5) t ∧ ∀ (p : Addr) (xs : List V) (ds : List PyData) (i : Nat) (way : Int) (l1 : Addr) (n1 : Nat) (H1 : Hp), d = .tuple ds → SqT K H1 p xs → DqAll K H1 m l1 xs ds → i < xs.length → Mch H1 m l1 n1 → n1 ≤ n + 5 → Fr m l l1 H H1 → t ({ nx := fun _ H' => Q .non H', rt := Q } : Ends) [some (.ref m), some (.ref p), some (.int (i : Int)), some (.int way)] H1 := by
    obtain ⟨t2, d2, z2⟩ := st2
    refine ⟨_, pss_cons (ps_if (pt_cmpR op_eq (pv 3) pe_int (nomark _)) (pss_one (ps_ret (pe_op op_catA (pv 1) (pe_slice sl_tupA (pv 1) (po_some (pv 2)) (po_some (pe_op op_add (pv 2) pe_int)))))) pss_nil) d2, ?_⟩
    intro p xs ds i way l1 n1 H1 ed hp hx hi M1 h1 f1
    refine ⟨_, rfl, rfl, _, rfl, ite_b (fun e => ?_) (fun _ => z2 p xs ds i way l1 n1 H1 ed hp hx hi M1 h1 f1)⟩
    obtain ⟨c, eb, g, gw⟩ := tupOk ds ed
    have lx := hx.len
    have ls := wA_len ds
    refine ⟨_, rfl, _, rfl, _, rfl, _, rfl, _, rfl, _, _, rfl, rfl, _, rfl, ?_⟩
    refine slA_any hp fun p6 H6 s6 c6 => ?_
    rw [cut_one hi] at c6
    refine catA_any (Same.seqT s6 hp) c6 (lenOk _ (by simp; omega)) fun p7 H7 s7 c7 => ?_
    have s17 := s6.trans s7
    have hx7 := DqAll.step (M1.kept s17) ds xs hx
    have w1 := wA_split ds i
    have w2 := wA_split (ds.drop i) 1
    refine q (.ref p7) (.tuple (ds ++ (ds.drop i).take 1)) l1 H7 (.tup c7 (hx7.app ((hx7.drop i).take 1))) ?_ ((M1.same s17).mono (by omega)) (f1.trail s17)
    rw [eb]
    exact (Gd.tup (g.app ((g.dr i).tk 1))).mono (by omega) (by omega) (by omega)
  have st0 : ∃ t, PSs (cxOf CX0 P w K mg base NB "_law_bent" (defScope sBent) fB cdv A outer s H E).nox ((defBody sBent).drop 4) t ∧ ∀ (p : Addr) (xs : List V) (ds : List PyData) (i : Nat) (way : Int) (l1 : Addr) (n1 : Nat) (H1 : Hp), d = .tuple ds → SqT K H1 p xs → DqAll K H1 m l1 xs ds → i < xs.length → Mch H1 m l1 n1 → n1 ≤ n + 5 → Fr m l l1 H H1 → t ({ nx := fun _ H' => Q .non H', rt := Q } : Ends) [some (.ref m), some (.ref p), some (.int (i : Int)), some (.int way)] H1 := by
    obtain ⟨t1, d1, z1⟩ := st1
    refine ⟨_, pss_cons (ps_if (pt_cmpR op_eq (pv 3) pe_int (nomark _)) (pss_one (ps_ret (pe_op op_catA (pe_slice sl_tupA (pv 1) po_none (po_some (pv 2))) (pe_slice sl_tupA (pv 1) (po_some (pe_op op_add (pv 2) pe_int)) po_none)))) pss_nil) d1, ?_⟩
    intro p xs ds i way l1 n1 H1 ed hp hx hi M1 h1 f1
    refine ⟨_, rfl, rfl, _, rfl, ite_b (fun e => ?_) (fun _ => z1 p xs ds i way l1 n1 H1 ed hp hx hi M1 h1 f1)⟩
    obtain ⟨c, eb, g, gw⟩ := tupOk ds ed
    have lx := hx.len
    have ls := wA_len ds
    refine ⟨_, rfl, _, rfl, _, rfl, slA_any hp fun p1 H2 s2 c2 => ?_⟩
    rw [cut_to (by omega)] at c2
    refine ⟨_, rfl, _, rfl, _, _, rfl, rfl, _, rfl, ?_⟩
    refine noPart ?_
    refine slA_any (Same.seqT s2 hp) fun p6 H6 s6 c6 => ?_
    rw [cut_from1 hi] at c6
    refine catA_any (Same.seqT s6 c2) c6 (lenOk _ (by simp; omega)) fun p7 H7 s7 c7 => ?_
    have s17 := (s2.trans s6).trans s7
    have hx7 := DqAll.step (M1.kept s17) ds xs hx
    have w1 := wA_split ds i
    have w2 := wA_split ds (i + 1)
    have w3 : PyData.weightAll (ds.drop (i + 1)) ≤ PyData.weightAll (ds.drop i) := by
      have := wA_split (ds.drop i) 1
      rw [List.drop_drop] at this
      omega
    refine q (.ref p7) (.tuple (ds.take i ++ ds.drop (i + 1))) l1 H7 (.tup c7 ((hx7.take i).app (hx7.drop (i + 1)))) ?_ ((M1.same s17).mono (by omega)) (f1.trail s17)
    rw [eb]
    exact (Gd.tup ((g.tk i).app (g.dr (i + 1)))).mono (by omega) (by omega) (by omega)
  obtain ⟨t0, d0, z0⟩ := st0
  have sa : ∃ t, PSs (cxOf CX0 P w K mg base NB "_law_bent" (defScope sBent) fB cdv A outer s H E).nox ((defBody sBent).drop 3) t ∧ ∀ (p : Addr) (xs : List V) (ds : List PyData) (l1 : Addr) (n1 : Nat) (H1 : Hp), d = .tuple ds → SqT K H1 p xs → DqAll K H1 m l1 xs ds → 0 < xs.length → Mch H1 m l1 n1 → n1 ≤ n + 3 → Fr m l l1 H H1 → t ({ nx := fun _ H' => Q .non H', rt := Q } : Ends) [some (.ref m), some (.ref p), none, none] H1 := by
    refine ⟨_, pss_cons (ps_par (i := 2) (j := 3) (by rfl) scBe.nd rfl rfl (by decide) rfl rfl (pa_cons (pe_call GN hr rfl T.next FN.kp bN .nil pass0 (pa_cons (pv 0) (pa_cons (pe_callB call_len (by rfl) T.len PySem.boot_len (pa_cons (pv 1) pa_nil)) pa_nil))) (pa_cons (pe_call GN hr rfl T.next FN.kp bN .nil pass0 (pa_cons (pv 0) (pa_cons pe_int pa_nil))) pa_nil)) (by rfl)) d0, ?_⟩
    intro p xs ds l1 n1 H1 ed hp hx hi M1 h1 f1
    obtain ⟨c, eb, g, gw⟩ := tupOk ds ed
    have lx := hx.len
    have ls := wA_len ds
    refine ⟨_, rfl, _, rfl, _, _, rfl, .inr ⟨_, hp, rfl⟩, m, l1, n1, (xs.length : Int), rfl, M1, by omega, by omega, by omega, fun r l2 H2 r0 r1 M2 f2 => ?_⟩
    obtain ⟨i, rfl⟩ : ∃ i : Nat, r = (i : Int) := ⟨r.toNat, by omega⟩
    refine ⟨_, rfl, m, l2, n1 + 1, 11, rfl, M2, by omega, by decide, by decide, fun way l3 H3 w0 w1 M3 f3 => ?_⟩
    have F3 := f2.trans f3
    have k4 := M1.step F3
    exact ⟨_, _, rfl, z0 p xs ds i way l3 (n1 + 2) _ ed (k4.tup hp) (DqAll.step k4 ds xs hx) (by omega) M3 (by omega) (f1.trans F3)⟩
  obtain ⟨ta, da, za⟩ := sa
  have sb : ∃ t, PSs (cxOf CX0 P w K mg base NB "_law_bent" (defScope sBent) fB cdv A outer s H E).nox ((defBody sBent).drop 2) t ∧ ∀ (l1 : Addr) (n1 : Nat) (H1 : Hp), Mch H1 m l1 n1 → n1 ≤ n + 2 → Fr m l l1 H H1 → t ({ nx := fun _ H' => Q .non H', rt := Q } : Ends) [some (.ref m), some v, none, none] H1 := by
    refine ⟨_, pss_cons (ps_if (PW.pt (pw_or (pt_not (pt_val (pe_callB call_isi (by rfl) T.isi PyProof.Rows.boot_isinstance (pa_cons (pv 1) (pa_cons (pe_bltn (v := .ty "tuple") (u := .type "tuple") (by rfl) T.tuple (by decide +kernel) rfl) pa_nil))))) (pw_or (pt_cmpR (op_eq_nil hr.units) (pv 1) (pe_tup pa_nil) (nomark _)) (pw_or1 (pt_cmpR op_eq (pe_call GN hr rfl T.next FN.kp bN .nil pass0 (pa_cons (pv 0) (pa_cons pe_int pa_nil))) pe_int (nomark _)))))) (pss_one (ps_ret (pe_call GO hr rfl T.odd FO.kp bO .nil pass0 (pa_cons (pv 0) pa_nil)))) pss_nil) da, ?_⟩
    intro l1 n1 H1 M1 h1 f1
    have hd1 := Dq.step (M.step f1) d v hd
    have retO : ∀ (l1 : Addr) (n1 : Nat) (H1 : Hp), Mch H1 m l1 n1 → n1 ≤ n + 3 → Fr m l l1 H H1 → spOdd K [.ref m] H1 Q E0 := fun l1 n1 H1 M1 h1 f1 =>
      ⟨m, l1, n1, rfl, M1, by omega, fun v2 d2 l2 H3 dq2 gd2 M3 f3 => q v2 d2 l2 H3 dq2 (gd2.mono (by omega) (by omega) (by omega)) (M3.mono (by omega)) (f1.trans f3)⟩
    refine ⟨_, rfl, v, .ty "tuple", _, _, _, rfl, .ty _, hd1.ty, isi_tup K d, _, rfl, ?_⟩
    cases d with
    | tuple ds =>
      cases hd1 with
      | tup hp hx =>
        rename_i p xs
        refine ifF rfl ⟨_, rfl, Nat.zero_le _, fun p0 h0 => ?_⟩
        have s2 : Same H1 (upd H1 p0 (.tup [])) := Same.upd h0
        have M2 := M1.same s2
        have f2 := f1.trail s2
        refine ⟨_, _, xs, rfl, rfl, Same.seqT s2 hp, .inl (.inl upd_same), _, rfl, ite_b (fun e => ifT rfl ⟨_, rfl, retO l1 n1 _ M2 (by omega) f2⟩) (fun e => ?_)⟩
        have hne : xs.length ≠ 0 := fun z => by rw [z] at e; cases e
        refine ⟨_, rfl, m, l1, n1, 6, rfl, M2, by omega, by decide, by decide, fun r l2 H3 r0 r1 M3 f3 => ⟨rfl, _, rfl, ite_b (fun _ => ⟨_, rfl, retO l2 (n1 + 1) _ M3 (by omega) (f2.trans f3)⟩) (fun _ => ?_)⟩⟩
        have k3 := M1.step (Fr.lead s2 f3)
        exact za _ xs ds l2 (n1 + 1) H3 rfl (k3.tup hp) (DqAll.step k3 ds xs hx) (by omega) M3 (by omega) (f2.trans f3)
    | _ => exact ifT rfl (ifT rfl ⟨_, rfl, retO l1 n1 _ M1 (by omega) f1⟩)
  obtain ⟨tb, db, zb⟩ := sb
  have sc : ∃ t, PSs (cxOf CX0 P w K mg base NB "_law_bent" (defScope sBent) fB cdv A outer s H E).nox ((defBody sBent).drop 1) t ∧ ∀ (l1 : Addr) (n1 : Nat) (H1 : Hp), Mch H1 m l1 n1 → n1 ≤ n + 1 → Fr m l l1 H H1 → t ({ nx := fun _ H' => Q .non H', rt := Q } : Ends) [some (.ref m), some v, none, none] H1 := by
    refine ⟨_, pss_cons (ps_if (PW.pt (pw_and (pt_val (pe_callB call_isi (by rfl) T.isi PyProof.Rows.boot_isinstance (pa_cons (pv 1) (pa_cons (pe_bltn (v := .ty "int") (u := .type "int") (by rfl) T.int (by decide +kernel) rfl) pa_nil)))) (pw_and (pt_not (pt_val (pe_callB call_isi (by rfl) T.isi PyProof.Rows.boot_isinstance (pa_cons (pv 1) (pa_cons (pe_bltn (v := .ty "bool") (u := .type "bool") (by rfl) T.bool (by decide +kernel) rfl) pa_nil))))) (pw_and1 (pt_cmpR op_eq (pe_call GN hr rfl T.next FN.kp bN .nil pass0 (pa_cons (pv 0) (pa_cons pe_int pa_nil))) pe_int (nomark _)))))) (pss_one (ps_ret (pe_op op_add (pv 1) (pe_ix ix_list (pe_lst (pa_cons pe_int (pa_cons (pe_un un_neg pe_int) (pa_cons pe_int (pa_cons (pe_un un_neg pe_int) (pa_cons pe_int (pa_cons (pe_un un_neg pe_int) pa_nil))))))) (pe_call GN hr rfl T.next FN.kp bN .nil pass0 (pa_cons (pv 0) (pa_cons pe_int pa_nil))) (fun _ _ => rfl))))) pss_nil) db, ?_⟩
    intro l1 n1 H1 M1 h1 f1
    have hd1 := Dq.step (M.step f1) d v hd
    refine ⟨_, rfl, v, .ty "int", _, _, _, rfl, .ty _, hd1.ty, isi_int K d, _, rfl, ?_⟩
    cases d with
    | int j =>
      cases hd1
      refine ifT rfl ⟨_, rfl, .int j, .ty "bool", _, _, _, rfl, .ty _, .base (.int j), isi_bool K (.int j), _, rfl, ifT rfl ?_⟩
      refine ⟨_, rfl, m, l1, n1, 2, rfl, M1, by omega, by decide, by decide, fun r l2 H2 r0 r1 M2 f2 => ⟨rfl, _, rfl, ite_b (fun _ => ?_) (fun _ => zb l2 (n1 + 1) H2 M2 (by omega) (f1.trans f2))⟩⟩
      refine ⟨_, rfl, _, rfl, _, rfl, _, rfl, (by show 6 ≤ sizeLine; decide), fun pL hL => ?_⟩
      have sL : Same H2 (upd H2 pL (.lst [.int 1, .int (-1), .int 3, .int (-3), .int 100, .int (-100)])) := Same.upd hL
      have nL := M2.ne hL
      refine ⟨_, rfl, m, l2, n1 + 1, 6, rfl, M2.same sL, by omega, by decide, by decide, fun r2 l3 H3 a3 b3 M3 f3 => ?_⟩
      obtain ⟨c, hc, c1, c2⟩ : ∃ c : Int, atI ([.int 1, .int (-1), .int 3, .int (-3), .int 100, .int (-100)] : List V) r2 = some (.int c) ∧ -100 ≤ c ∧ c ≤ 100 := by
        obtain ⟨i, rfl⟩ : ∃ i : Nat, r2 = (i : Int) := ⟨r2.toNat, by omega⟩
        have hi : i < 6 := by omega
        match i, hi with
        | 0, _ => exact ⟨1, rfl, by decide, by decide⟩
        | 1, _ => exact ⟨-1, rfl, by decide, by decide⟩
        | 2, _ => exact ⟨3, rfl, by decide, by decide⟩
        | 3, _ => exact ⟨-3, rfl, by decide, by decide⟩
        | 4, _ => exact ⟨100, rfl, by decide, by decide⟩
        | 5, _ => exact ⟨-100, rfl, by decide, by decide⟩
      refine ⟨pL, _, r2, .int c, rfl, rfl, SqL.of (f3.keep pL _ upd_same nL.1 nL.2), hc, _, _, rfl, rfl, ?_⟩
      have gj := gd.unint
      exact q _ (.int (j + c)) l3 H3 (.int _) ((Gd.int (B := B + 100) (by omega) hB2).mono (Nat.le_refl _) (by omega) (by omega)) (M3.mono (by omega)) ((f1.trans f2).trans (Fr.lead sL f3))
    | bool j =>
      cases hd1
      refine ifT rfl ⟨_, rfl, .bl j, .ty "bool", _, _, _, rfl, .ty _, .base (.bl j), isi_bool K (.bool j), _, rfl, ifF rfl (ifF rfl (zb l1 n1 H1 M1 (by omega) f1))⟩
    | _ => exact ifF rfl (ifF rfl (zb l1 n1 H1 M1 (by omega) f1))
  obtain ⟨tc, dc, zc⟩ := sc
  refine ⟨_, pss_cons (ps_if (PW.pt (pw_and (pt_val (pe_callB call_isi (by rfl) T.isi PyProof.Rows.boot_isinstance (pa_cons (pv 1) (pa_cons (pe_bltn (v := .ty "str") (u := .type "str") (by rfl) T.str (by decide +kernel) rfl) pa_nil)))) (pw_and1 (pt_cmpR op_eq (pe_call GN hr rfl T.next FN.kp bN .nil pass0 (pa_cons (pv 0) (pa_cons pe_int pa_nil))) pe_int (nomark _))))) (pss_one (ps_ret (pe_ix ix_list (pe_lst (pa_cons (pe_op op_add_str (pv 1) pe_str) (pa_cons (pe_slice sl_str (pv 1) (po_some pe_int) po_none) (pa_cons (pe_op op_add_str (pv 1) pe_str) (pa_cons (pe_op op_add_str (pv 1) pe_str) (pa_cons (pe_op op_mul_si (pv 1) pe_int) (pa_cons (pe_op op_add_str (pv 1) pe_str) pa_nil))))))) (pe_call GN hr rfl T.next FN.kp bN .nil pass0 (pa_cons (pv 0) (pa_cons pe_int pa_nil))) (fun _ _ => rfl)))) pss_nil) dc, ?_⟩
  refine ⟨_, rfl, v, .ty "str", _, _, _, rfl, .ty _, hd.ty, isi_str K d, _, rfl, ?_⟩
  cases d with
  | str z =>
    cases hd
    have gz := gd.unstr
    have zl : z.length ≤ 50000 := Nat.le_trans gz.1 ha
    have zs : z.length ≤ sizeLine := lenOk _ (by omega)
    refine ifT rfl ⟨_, rfl, m, l, n, 2, rfl, M, by omega, by decide, by decide, fun r l2 H2 r0 r1 M2 f2 => ⟨rfl, _, rfl, ite_b (fun _ => ?_) (fun _ => zc l2 (n + 1) H2 M2 (by omega) f2)⟩⟩
    refine ⟨_, rfl, z, "b", rfl, rfl, lenOk _ (show z.length + 1 ≤ _ by omega), _, rfl, _, rfl, z, rfl, zs, _, rfl, z, "A", rfl, rfl, lenOk _ (show z.length + 1 ≤ _ by omega), _, rfl, z, " ", rfl, rfl, lenOk _ (show z.length + 1 ≤ _ by omega),
      _, rfl, z, 2, rfl, rfl, mul_small zl, _, rfl, z, "1", rfl, rfl, lenOk _ (show z.length + 1 ≤ _ by omega), (by show 6 ≤ sizeLine; decide), fun pL hL => ?_⟩
    obtain ⟨ws, hws⟩ : ∃ ws : List Str, ws = [z ++ "b", cutS z (some 1) none, z ++ "A", z ++ " ", Txt.mul z 2, z ++ "1"] := ⟨_, rfl⟩
    have one : ∀ c : Nat, c < 0x110000 → sOk (2 * a + 200) (z ++ ⟨#[c]⟩) := fun c hc => (gz.app (sOk.sign hc)).mono (by omega)
    have wok : ∀ y ∈ ws, sOk (2 * a + 200) y := by
      rw [hws]
      intro y hy
      simp only [List.mem_cons, List.mem_nil_iff, or_false] at hy
      rcases hy with rfl | rfl | rfl | rfl | rfl | rfl
      · exact one 98 (by decide)
      · exact (gz.cut _ _).mono (by omega)
      · exact one 65 (by decide)
      · exact one 32 (by decide)
      · exact (mul2_ok gz).mono (by omega)
      · exact one 49 (by decide)
    have wl : ws.length = 6 := by rw [hws]; rfl
    have sL : Same H2 (upd H2 pL (.lst (ws.map V.str))) := Same.upd hL
    have nL := M2.ne hL
    have eL : upd H2 pL (.lst (ws.map V.str)) = upd H2 pL (.lst [.str (z ++ "b"), .str (cutS z (some 1) none), .str (z ++ "A"), .str (z ++ " "), .str (Txt.mul z 2), .str (z ++ "1")]) := by rw [hws]; rfl
    rw [← eL]
    refine ⟨_, rfl, m, l2, n + 1, 6, rfl, M2.same sL, by omega, by decide, by decide, fun r2 l3 H3 a3 b3 M3 f3 => ?_⟩
    obtain ⟨i, rfl⟩ : ∃ i : Nat, r2 = (i : Int) := ⟨r2.toNat, by omega⟩
    obtain ⟨y, hy⟩ : ∃ y, ws[i]? = some y := ⟨_, List.getElem?_eq_getElem (by omega)⟩
    have hv : (ws.map V.str)[i]? = some (.str y) := by rw [List.getElem?_map, hy]; rfl
    refine ⟨pL, _, (i : Int), .str y, rfl, rfl, SqL.of (f3.keep pL _ upd_same nL.1 nL.2), atI_nat hv, ?_⟩
    exact q _ (.str y) l3 H3 (.str _) ((Gd.str (wok y (List.mem_of_getElem? hy))).mono (Nat.le_refl _) (Nat.le_refl _) (by omega)) (M3.mono (by omega)) (f2.trans (Fr.lead sL f3))
  | _ => exact ifF rfl (ifF rfl (zc l n H M (by omega) (Fr.refl M)))
theorem ok_bent {fd fdN fdO : FuncData} (F : Fun K "_law_bent" "_law_bent" sBent fB fd) (bB : Binds K fd ["m", "thing"] []) (T : TxtB mg fN fM fO fB) (FN : Fun K "_law_next" "_law_next" sNext fN fdN) (bN : Binds K fdN ["m", "many"] [])
    (FO : Fun K "_law_odd" "_law_odd" sOdd fO fdO) (bO : Binds K fdO ["m"] []) (k : Nat) : FnOk P w K mg base CX0 (k + 2) fB fd ["m", "thing"] (spBent K k) := by
  induction k with
  | zero => exact ⟨fun vs H Q E h => h.elim, fun A outer s H args us vs Q E hr e bd rel h => h.elim⟩
  | succ k ih => exact bent_step F bB T FN bN FO bO ih
end
end Ms
namespace Ms
open PySem PySem.Spec PyProof.Rows L2 LamX
/-! ### law k03: what a turn holds -/
abbrev forBody (s : Stmt) : List Stmt := match s with
  | .For _ _ b _ _ => b
  | _ => []
abbrev bTurn : List Stmt := forBody ((defBody sLaw).getD 1 (.Pass ⟨0, 0, 0, 0⟩))
abbrev bFirst : List Stmt := forBody (bTurn.getD 4 (.Pass ⟨0, 0, 0, 0⟩))
abbrev bSecond : List Stmt := forBody (bTurn.getD 5 (.Pass ⟨0, 0, 0, 0⟩))
abbrev NL : List Str := ["script", "m", "turn", "spots", "begin", "pairs", "firsts", "seconds", "first", "second", "kept", "told"]
theorem scL : FnScope NL ["script"] (defScope sLaw) := ⟨rfl, rfl, rfl, by decide +kernel, rfl, by decide +kernel, by decide +kernel⟩
abbrev lamQ : Str := "law.<locals>.<lambda>"
/-- an item of the law's lists: some data, not too great -/
def ItD (K : PySem.W.Frag) (H : Hp) (m l : Addr) (v : V) : Prop := ∃ d, Dq K H m l v d ∧ Gd (10 ^ 31) 45000 38 d
theorem Prs.kept {H H' : Hp} {m l l' : Addr} {as : List Addr} {ys : List (Str × Int)} (k : Kept m l l' H H') (p : Prs H as ys) : Prs H' as ys := by
  obtain ⟨z1, e1⟩ := k.am
  obtain ⟨z2, e2⟩ := k.al
  refine Prs.same (fun b o hb e => ?_) p
  obtain ⟨y, i, h⟩ := p.live b hb
  exact k.keep b o e (ne_of h e1 (by intro z; cases z)) (ne_of h e2 (by intro z; cases z))
theorem Dq.toIt {K : PySem.W.Frag} {H : Hp} {m l : Addr} {v : V} {d : PyData} {B a b : Nat} (h : Dq K H m l v d) (g : Gd B a b d) (hB : B ≤ 10 ^ 31) (ha : a ≤ 45000) (hb : b ≤ 38) : ItD K H m l v := ⟨d, h, g.mono hB ha hb⟩
section
variable {K : PySem.W.Frag} {H H' : Hp} {m l l' : Addr} {n n' : Nat}
theorem DqAll.ext (e : ExtN H H') {vs : List V} {ds : List PyData} (h : DqAll K H m l vs ds) : DqAll K H' m l vs ds :=
  DqAll.gen (fun a xs q n1 n2 => ⟨e _ _ q (fun _ z => nomatch z), n1, n2⟩) (fun a xs q => ExtN.seqT e q) (fun a q n1 n2 => ⟨e _ _ q (fun _ z => nomatch z), n1, n2⟩) ds vs h
theorem DqAll.same' (s : Same H H') {vs : List V} {ds : List PyData} (h : DqAll K H m l vs ds) : DqAll K H' m l vs ds := DqAll.ext (Same.toN s) h
theorem ItD.step (k : Kept m l l' H H') {v : V} (h : ItD K H m l v) : ItD K H' m l' v := by
  obtain ⟨d, h1, h2⟩ := h
  exact ⟨d, Dq.step k d v h1, h2⟩
theorem ItD.ext (e : ExtN H H') {v : V} (h : ItD K H m l v) : ItD K H' m l v := by
  obtain ⟨d, h1, h2⟩ := h
  exact ⟨d, Dq.ext e h1, h2⟩
/-- a list of such items -/
structure Ls (K : PySem.W.Frag) (H : Hp) (m l F : Addr) (fs : List V) : Prop where
  at_ : H F = some (.lst fs)
  ne : F ≠ l
  it : ∀ x ∈ fs, ItD K H m l x
theorem Ls.step {F : Addr} {fs : List V} (M : Mch H m l n) (f : Fr m l l' H H') (L : Ls K H m l F fs) : Ls K H' m l' F fs := by
  have k := M.step f
  obtain ⟨z1, e1⟩ := k.am
  exact ⟨k.keep _ _ L.at_ (ne_of L.at_ e1 (by intro z; cases z)) L.ne, k.ne _ _ L.at_ L.ne, fun x hx => (L.it x hx).step k⟩
theorem Ls.ext {F : Addr} {fs : List V} (e : ExtN H H') (L : Ls K H m l F fs) : Ls K H' m l F fs := ⟨e _ _ L.at_ (fun _ z => nomatch z), L.ne, fun x hx => (L.it x hx).ext e⟩
/-- what was drawn at the turn's beginning -/
structure Tn (K : PySem.W.Frag) (Pt : Addr) (H : Hp) (m l : Addr) (n : Nat) (pS : Addr) (xs : List V) (ys : List (Str × Int)) (pP : Addr) (dP : PyData) (pW : Addr) (dW : PyData) : Prop where
  M : Mch H m l n
  t : Tabs [(Pt, lamQ)] H
  so : SetOk ys
  s : SqT K H pS xs
  x : DqAll K H m l xs (prD ys)
  p : Dq K H m l (.ref pP) dP
  gp : Gd (10 ^ 31) 45000 38 dP
  w : Dq K H m l (.ref pW) dW
  gw : Gd (10 ^ 31) 45000 38 dW
section
variable {Pt pS pP pW : Addr} {xs : List V} {ys : List (Str × Int)} {dP dW : PyData}
theorem Tn.step (f : Fr m l l' H H') (M' : Mch H' m l' n') (T : Tn K Pt H m l n pS xs ys pP dP pW dW) : Tn K Pt H' m l' n' pS xs ys pP dP pW dW := by
  have k := T.M.step f
  exact ⟨M', Tabs.fr T.M f T.t, T.so, k.tup T.s, DqAll.step k _ _ T.x, Dq.step k _ _ T.p, T.gp, Dq.step k _ _ T.w, T.gw⟩
theorem Tn.ext (e : ExtN H H') (t : Tabs [(Pt, lamQ)] H') (T : Tn K Pt H m l n pS xs ys pP dP pW dW) : Tn K Pt H' m l n pS xs ys pP dP pW dW :=
  ⟨Mch.ext e T.M, t, T.so, ExtN.seqT e T.s, DqAll.ext e T.x, Dq.ext e T.p, T.gp, Dq.ext e T.w, T.gw⟩
theorem Tn.same (s : Same H H') (T : Tn K Pt H m l n pS xs ys pP dP pW dW) : Tn K Pt H' m l n pS xs ys pP dP pW dW := T.ext (Same.toN s) (Tabs.same T.t s)
theorem Tn.mono (T : Tn K Pt H m l n pS xs ys pP dP pW dW) (h : n ≤ n') : Tn K Pt H m l n' pS xs ys pP dP pW dW := ⟨T.M.mono h, T.t, T.so, T.s, T.x, T.p, T.gp, T.w, T.gw⟩
theorem Tn.d (T : Tn K Pt H m l n pS xs ys pP dP pW dW) : Dq K H m l (.ref pS) (.tuple (prD ys)) := .tup T.s T.x
end
end
theorem pr_good : ∀ ys : List (Str × Int), okP ys → Gl' big (123 * ys.length) 1 (prD ys)
  | [], _ => ⟨(fun d h => nomatch h), Nat.le_refl _, (fun d h => nomatch h)⟩
  | q :: ys, h => by
    obtain ⟨h1, h2, h3⟩ := h q (List.mem_cons_self ..)
    have g1 : Gd big 16 0 (.str q.1) := Gd.str h1
    have g2 : Gd big 104 0 (.int q.2) := Gd.int (by show q.2.natAbs ≤ 10 ^ 30; omega) (by decide)
    have g := Gd.tup ((Gl'.one g1).app (Gl'.one g2))
    have r := (Gl'.one g).app (pr_good ys fun x hx => h x (List.mem_cons_of_mem _ hx))
    exact r.mono (Nat.le_refl _) (by simp only [List.length_cons]; omega) (Nat.le_refl _)
theorem spots_good {ys : List (Str × Int)} (so : SetOk ys) : Gd (10 ^ 31) 600 2 (.tuple (prD ys)) := by
  have := so.len3
  exact (Gd.tup (pr_good ys so.okP)).mono (by decide) (by omega) (Nat.le_refl _)
/-- a book is made, and told -/
theorem SetOk.g12 {ys : List (Str × Int)} (so : SetOk ys) : (grid ys).length ≤ 12 := by
  have g := grid_many ys so.most
  have := so.few
  omega
theorem ttb_of {K : PySem.W.Frag} {C CS CT CW m l : Addr} {n : Nat} {tl : XK → Hp → VK → Prop} {H2 : Hp} {Q : VK} {v1 v2 v3 : V} {ys : List (Str × Int)} {d2 d3 : PyData} (M : Mch H2 m l n) (so : SetOk ys) (h1 : Dq K H2 m l v1 (.tuple (prD ys)))
    (h2 : Dq K H2 m l v2 d2) (g2 : shortD d2) (h3 : Dq K H2 m l v3 d3) (g3 : shortD d3)
    (mk : ∀ (Ec : XK) (Qc : VK) (H3 : Hp), Same H2 H3 → (∀ x dx, H3 x = none → H3 dx = none → dx ≠ x → spBook K C CS CT CW [.ref x, v1, v2, v3] (upd (upd H3 dx (.own x)) x (.ins C dx [])) (fun v H2 => v = .non ∧ Qc (.ref x) H2) Ec) → tl Ec H3 Qc)
    (key : ∀ (tv : V) (Hend : Hp), Same H2 Hend → Dq K Hend m l tv (dueB ys d2 d3) → Q tv Hend) : TTb K C CS CT CW tl H2 Q := by
  intro H3 Ec Qc s3 hS hT hW hQ
  refine mk Ec Qc H3 s3 ?_
  exact book_made (Q := Q) (M.same s3) so (Dq.same s3 _ _ h1) ((spots_good so).mono (Nat.le_refl _) (by decide) (Nat.le_refl _)) (Dq.same s3 _ _ h2) g2 (Dq.same s3 _ _ h3) g3 hT hW hQ fun tv H4 s4 dq4 => key tv H4 (s3.trans s4) dq4
/-- what the law's own def and the package are called by -/
structure TLb (mg : Str → Option Value) (fBg fSe fBo fDu fTo C CS CT CW : Addr) : Prop where
  begun : mg "_law_begun" = some (.ref fBg)
  settings : mg "_law_settings" = some (.ref fSe)
  book : mg "_law_book" = some (.ref fBo)
  due : mg "_law_due" = some (.ref fDu)
  told : mg "_law_told" = some (.ref fTo)
  cls : mg "Book" = some (.ref C)
  mS : mg "BadSettings" = some (.ref CS)
  mT : mg "BadStarts" = some (.ref CT)
  mW : mg "BadSwitches" = some (.ref CW)
  repr : mg "repr" = none
  min : mg "min" = none
/-- the classes -/
structure Cl4 (K : PySem.W.Frag) (C CS CT CW fR : Addr) : Prop where
  mkc : Mk K C fR
  rc : BookC K C
  xSS : PySem.W.exmOne K (.ref CS) (.ref CS) = some true
  xPS : PySem.W.exmOne K (.ref CT) (.ref CS) = some false
  xPP : PySem.W.exmOne K (.ref CT) (.ref CT) = some true
  xMS : PySem.W.exmOne K (.ref CW) (.ref CS) = some false
  xMP : PySem.W.exmOne K (.ref CW) (.ref CT) = some false
  xMM : PySem.W.exmOne K (.ref CW) (.ref CW) = some true
  rS : RefC K CS
  rP : RefC K CT
  rM : RefC K CW
/-- what a law's def knows of Book and of _law_told, _law_due -/
structure Kn (P : Program) (w : World) (K : PySem.W.Frag) (mg : Str → Option Value) (base : Heap) (fBg fSe fBo fDu fTo C CS CT CW fR : Addr) (fdDu fdTo fdR : FuncData) (dns : List Value) (mk0 mk1 : List Value) : Prop where
  TL : TLb mg fBg fSe fBo fDu fTo C CS CT CW
  cl : Cl4 K C CS CT CW fR
  GR : FnOk P w K mg base (L2.CX P w) 5 fR fdR NBk (spBook K C CS CT CW)
  b0 : Binds K fdR NBk dns
  vd : Vals [V.non, .non] dns
  ks : KBn K fdR NBk 2 ["starts", "switches"] (fun us ws => us ++ mk0 ++ ws) (fun vs zs => vs ++ [] ++ zs)
  kw : KBn K fdR NBk 2 ["switches"] (fun us ws => us ++ mk1 ++ ws) (fun vs zs => vs ++ [V.non] ++ zs)
  FDu : Fun K "_law_due" "_law_due" sDue fDu fdDu
  bDu : Binds K fdDu ["spots", "begin", "pairs"] []
  GDu : FnG P w K mg base 3 fDu fdDu ["spots", "begin", "pairs"] (spDueB K)
  FT : Fun K "_law_told" "_law_told" sTold fTo fdTo
  bT : Binds K fdTo ["call"] []
end Ms
namespace Ms
open PySem PySem.Spec PyProof.Rows L2 LamX
section
variable {P : Program} {w : World} {K : PySem.W.Frag} {mg : Str → Option Value} {base : Heap} {fBg fSe fBo fDu fTo C CS CT CW fR f c Pt : Addr} {fdDu fdTo fdR : FuncData} {dns mk0 mk1 : List Value} {s : Shared} {H0 : Hp} {Eb : XK}
/-- the answer of _law_due is what is told, and both are shown alike -/
theorem due_same {K : PySem.W.Frag} {H1 : Hp} {m l : Addr} {n : Nat} {pS : Addr} {xs : List V} {ys : List (Str × Int)} {v2 v3 : V} {d2 d3 : PyData} {Q : VK} {E : XK} (M : Mch H1 m l n) (so : SetOk ys) (hs : SqT K H1 pS xs) (hx : DqAll K H1 m l xs (prD ys))
    (h2 : Dq K H1 m l v2 d2) (g2 : Gd (10 ^ 31) 45000 38 d2) (h3 : Dq K H1 m l v3 d3) (g3 : Gd (10 ^ 31) 45000 38 d3) (q : ∀ (v : V) (H' : Hp), Same H1 H' → Dq K H' m l v (dueB ys d2 d3) → Q v H') : spDueB K [.ref pS, v2, v3] H1 Q E :=
  ⟨m, l, pS, n, xs, ys, v2, v3, d2, d3, 38, 38, rfl, M, hs, hx, so.len1, so.len3, so.most, so.g12, h2, g2.mono (Nat.le_refl _) (by decide) (Nat.le_refl _), by decide, h3, g3.mono (Nat.le_refl _) (by decide) (Nat.le_refl _), by decide, q⟩
theorem dueBg {ys : List (Str × Int)} {d2 d3 : PyData} (so : SetOk ys) (g2 : Gd (10 ^ 31) 45000 38 d2) (g3 : Gd (10 ^ 31) 45000 38 d3) : (dueB ys d2 d3).showable = true ∧ (dueB ys d2 d3).depth ≤ 60 ∧ (dueB ys d2 d3).shown.length ≤ sizeLine :=
  dueB_good so.len3 so.most so.g12 (spots_good so) g2 g3 (Nat.le_refl _) (Nat.le_refl _) (Nat.le_refl _) (Nat.le_refl _)
theorem noneG : Gd (10 ^ 31) 45000 38 PyData.none := ⟨by decide, by decide, by decide⟩
theorem shortN : shortD .none := fun _ z => nomatch z
/-! ### the second loop's turn -/
theorem law_second (Kn : Kn P w K mg base fBg fSe fBo fDu fTo C CS CT CW fR fdDu fdTo fdR dns mk0 mk1) (TB : TabB base mg c Pt) (hr : Room 9 (callerA.deeper (envOfC "law" (defScope sLaw) s.heap.objs.size f (.ref c)))) :
    ∃ t, PSs (cxOf CX0 P w K mg base NL "law" (defScope sLaw) f (.ref c) callerA [] s H0 Eb).nox bSecond t ∧ ∀ (D : Ends) (H1 : Hp) (a m l : Addr) (n : Nat) (pS : Addr) (xs : List V) (ys : List (Str × Int)) (pP : Addr) (dP : PyData) (pW : Addr) (dW : PyData) (v : V) (v2 v5 v6 v7 v8 v10 v11 : Option V),
      Tn K Pt H1 m l n pS xs ys pP dP pW dW → ItD K H1 m l v → (∀ (H2 : Hp), ExtN H1 H2 → Tabs [(Pt, lamQ)] H2 → D.nx [some (.ref a), some (.ref m), v2, some (.ref pS), some (.ref pP), v5, v6, v7, v8, some v, v10, v11] H2) →
      t D [some (.ref a), some (.ref m), v2, some (.ref pS), some (.ref pP), v5, v6, v7, v8, some v, v10, v11] H1 := by
  have gA : (callerA.deeper (envOfC "law" (defScope sLaw) s.heap.objs.size f (.ref c))).guards = some [] := rfl
  have hr3 : Room 3 (callerA.deeper (envOfC "law" (defScope sLaw) s.heap.objs.size f (.ref c))) := hr.mono (by decide)
  obtain ⟨oc, od, kV, doc, pm, an, cdv, ct, osl, efd, lk, hcd⟩ := Kn.FT.ex
  have TL := Kn.TL
  have cl := Kn.cl
  have bT := Kn.bT
  have kpT := Kn.FT.kp
  subst efd
  refine ⟨_, pss_one (ps_if (pt_cmpR op_ne
        (pe_callB (call_reprD gA hr.units) (by rfl) TL.repr (by decide +kernel) (pa_cons (pe_lamcall (T := [(Pt, lamQ)]) (TT := TTb K C CS CT CW) (c := c) (P := Pt) (k := 7) (t := fun E => tMakeN C 1 1 (spBook K C CS CT CW) (fun vs zs => vs ++ [V.non] ++ zs) E (tCons (tVar 3) tNil) (tCons (tVar 9) tNil)) (by rfl) TL.told kpT lk hcd bT scTo rfl (Or.inl rfl)
          (told_book cl.rc TL.mS TL.mT TL.mW cl.xSS cl.xPS cl.xPP cl.xMS cl.xMP cl.xMM cl.rS cl.rP cl.rM) TB rfl (List.mem_singleton.mpr rfl) (fun p hp _ => by rw [List.mem_singleton.mp hp]; rfl) hr (lamS_by (sc := defScope sLaw) (by decide +kernel)) rfl (fun _ _ _ _ _ => rfl)
          (fun A outer s H E f c' hr3 => pe_makeN (ks := ["switches"]) cl.mkc Kn.GR (hr3.mono (by decide)) (by rfl) TL.cls Kn.kw (passes_call (takes_of rfl rfl rfl rfl) fun _ _ _ _ h => h) (pa_cons (pv 3) pa_nil) (pk_cons (pv 9) pk_nil))) pa_nil))
        (pe_callB (call_reprD gA hr.units) (by rfl) TL.repr (by decide +kernel) (pa_cons (pe_callG Kn.GDu gA hr3 (by rfl) TL.due Kn.FDu.kp Kn.bDu .nil (pa_cons (pv 3) (pa_cons pe_non (pa_cons (pv 9) pa_nil)))) pa_nil)) (nomark _)) (pss_one (ps_ret pe_bl)) pss_nil), ?_⟩
  intro D H1 a m l n pS xs ys pP dP pW dW v v2 v5 v6 v7 v8 v10 v11 T hv nx
  obtain ⟨d, dv, gv⟩ := hv
  refine ⟨T.t, fun H2 e2 t2 => ?_⟩
  have T2 := T.ext e2 t2
  refine ttb_of T2.M T2.so T2.d (d2 := .none) .non shortN (Dq.ext e2 dv) (gv.short (by decide)) (fun Ec Qc H3 s3 z => ⟨_, rfl, _, rfl, rfl, rfl, z⟩) fun tv H4 s4 dq4 => ?_
  have T4 := T2.same s4
  have e14 := e2.trans (Same.toN s4)
  have sh := dueBg (d2 := .none) T.so noneG gv
  refine ⟨tv, _, m, l, rfl, dq4, sh.1, sh.2.1, sh.2.2, ?_⟩
  refine ⟨_, rfl, _, rfl, due_same (E := fun _ _ _ => False) T4.M T4.so T4.s T4.x (d2 := .none) .non noneG (Dq.ext e14 dv) gv fun v' H5 s5 dq5 => ?_⟩
  refine ⟨v', _, m, l, rfl, dq5, sh.1, sh.2.1, sh.2.2, rfl, _, rfl, iteNS rfl ?_⟩
  exact nx H5 (e14.trans (Same.toN s5)) (T4.same s5).t
end
end Ms
namespace Ms
open PySem PySem.Spec PyProof.Rows L2 LamX
section
variable {P : Program} {w : World} {K : PySem.W.Frag} {mg : Str → Option Value} {base : Heap} {fN fM fO fB fBg fSe fBo fDu fTo C CS CT CW fR f c Pt : Addr} {fdN fdDu fdTo fdR : FuncData} {dns mk0 mk1 : List Value} {s : Shared} {H0 : Hp} {Eb : XK}
/-! ### the first loop's turn -/
theorem law_first (Kn : Kn P w K mg base fBg fSe fBo fDu fTo C CS CT CW fR fdDu fdTo fdR dns mk0 mk1) (T0 : TxtB mg fN fM fO fB) (FN : Fun K "_law_next" "_law_next" sNext fN fdN) (bN : Binds K fdN ["m", "many"] []) (TB : TabB base mg c Pt) (hr : Room 9 (callerA.deeper (envOfC "law" (defScope sLaw) s.heap.objs.size f (.ref c)))) :
    ∃ t, PSs (cxOf CX0 P w K mg base NL "law" (defScope sLaw) f (.ref c) callerA [] s H0 Eb).nox bFirst t ∧ ∀ (D : Ends) (H1 : Hp) (a m l : Addr) (n : Nat) (pS : Addr) (xs : List V) (ys : List (Str × Int)) (pP : Addr) (dP : PyData) (pW : Addr) (dW : PyData) (S : Addr) (ss : List V) (v : V) (v2 v6 v9 v10 v11 : Option V),
      Tn K Pt H1 m l n pS xs ys pP dP pW dW → n < 500000 → Ls K H1 m l S ss → ss.length = 5 → ItD K H1 m l v →
      (∀ (v9 v10 v11 : Option V) (l' : Addr) (H2 H3 : Hp), Fr m l l' H1 H2 → Mch H2 m l' (n + 2) → ExtN H2 H3 → Tabs [(Pt, lamQ)] H3 → D.nx [some (.ref a), some (.ref m), v2, some (.ref pS), some (.ref pP), some (.ref pW), v6, some (.ref S), some v, v9, v10, v11] H3) →
      t D [some (.ref a), some (.ref m), v2, some (.ref pS), some (.ref pP), some (.ref pW), v6, some (.ref S), some v, v9, v10, v11] H1 := by
  have gA : (callerA.deeper (envOfC "law" (defScope sLaw) s.heap.objs.size f (.ref c))).guards = some [] := rfl
  have hr3 : Room 3 (callerA.deeper (envOfC "law" (defScope sLaw) s.heap.objs.size f (.ref c))) := hr.mono (by decide)
  have hr1 : Room 1 (callerA.deeper (envOfC "law" (defScope sLaw) s.heap.objs.size f (.ref c))) := hr.mono (by decide)
  have GN : FnOk P w K mg base CX0 1 fN fdN ["m", "many"] spNext := ok_next FN T0.toTxt
  obtain ⟨oc, od, kV, doc, pm, an, cdv, ct, osl, efd, lk, hcd⟩ := Kn.FT.ex
  have TL := Kn.TL
  have cl := Kn.cl
  have bT := Kn.bT
  have kpT := Kn.FT.kp
  subst efd
  refine ⟨_, pss_cons (ps_set (i := 9) scL.nd rfl (by first | exact Or.inl rfl | exact Or.inr rfl) (pe_ix (show IxR _ (rIxL K) from ix_list) (pe_lst (pa_cons (pv 5) (pa_cons (pe_ix (show IxR _ (rIxL K) from ix_list) (pv 7) (pe_call GN hr1 (by rfl) T0.next FN.kp bN .nil pass0 (pa_cons (pv 1) (pa_cons pe_int pa_nil))) (fun _ _ => rfl)) pa_nil)))
      (pe_call GN hr1 (by rfl) T0.next FN.kp bN .nil pass0 (pa_cons (pv 1) (pa_cons pe_int pa_nil))) (fun _ _ => rfl)))
    (pss_cons (ps_set (i := 10) scL.nd rfl (by first | exact Or.inl rfl | exact Or.inr rfl) (pe_callB (call_reprD gA hr.units) (by rfl) TL.repr (by decide +kernel) (pa_cons (pe_lst (pa_cons (pv 3) (pa_cons (pv 8) (pa_cons (pv 9) pa_nil)))) pa_nil)))
    (pss_cons (ps_set (i := 11) scL.nd rfl (by first | exact Or.inl rfl | exact Or.inr rfl) (pe_lamcall (T := [(Pt, lamQ)]) (TT := TTb K C CS CT CW) (c := c) (P := Pt) (k := 7) (t := fun E => tMakeN C 1 2 (spBook K C CS CT CW) (fun vs zs => vs ++ [] ++ zs) E (tCons (tVar 3) tNil) (tCons (tVar 8) (tCons (tVar 9) tNil))) (by rfl) TL.told kpT lk hcd bT scTo rfl (Or.inl rfl)
          (told_book cl.rc TL.mS TL.mT TL.mW cl.xSS cl.xPS cl.xPP cl.xMS cl.xMP cl.xMM cl.rS cl.rP cl.rM) TB rfl (List.mem_singleton.mpr rfl) (fun p hp _ => by rw [List.mem_singleton.mp hp]; rfl) hr (lamS_by (sc := defScope sLaw) (by decide +kernel)) rfl (fun _ _ _ _ _ => rfl)
          (fun A outer s H E f c' hr3 => pe_makeN (ks := ["starts", "switches"]) cl.mkc Kn.GR (hr3.mono (by decide)) (by rfl) TL.cls Kn.ks (passes_call (takes_of rfl rfl rfl rfl) fun _ _ _ _ h => h) (pa_cons (pv 3) pa_nil) (pk_cons (pv 8) (pk_cons (pv 9) pk_nil)))))
    (pss_one (ps_if (PW.pt (pw_or (pt_cmpR op_ne (pe_callB (call_reprD gA hr.units) (by rfl) TL.repr (by decide +kernel) (pa_cons (pv 11) pa_nil))
        (pe_callB (call_reprD gA hr.units) (by rfl) TL.repr (by decide +kernel) (pa_cons (pe_callG Kn.GDu gA hr3 (by rfl) TL.due Kn.FDu.kp Kn.bDu .nil (pa_cons (pv 3) (pa_cons (pv 8) (pa_cons (pv 9) pa_nil)))) pa_nil)) (nomark _))
      (pw_or1 (pt_cmpR op_ne (pe_callB (call_reprD gA hr.units) (by rfl) TL.repr (by decide +kernel) (pa_cons (pe_lst (pa_cons (pv 3) (pa_cons (pv 8) (pa_cons (pv 9) pa_nil)))) pa_nil)) (pv 10) (nomark _))))) (pss_one (ps_ret pe_bl)) pss_nil)))), ?_⟩
  intro D H1 a m l n pS xs ys pP dP pW dW S ss v v2 v6 v9 v10 v11 T hn Lss hss hv nx
  -- second = ..
  refine ⟨_, rfl, _, rfl, _, rfl, m, l, n, 5, rfl, T.M, by omega, by decide, by decide, fun r l2 H2 r0 r6 M2 f2 => ?_⟩
  obtain ⟨j, rfl⟩ : ∃ j : Nat, r = (j : Int) := ⟨r.toNat, by omega⟩
  have hj : j < ss.length := by omega
  have T2 := T.step f2 M2
  have L2' := Lss.step T.M f2
  have hv2 := hv.step (T.M.step f2)
  refine ⟨S, ss, (j : Int), ss[j], rfl, rfl, SqL.of L2'.at_, atI_nat (List.getElem?_eq_getElem hj), (by show 2 ≤ sizeLine; decide), fun p hp => ?_⟩
  have sp : Same H2 (upd H2 p (.lst [.ref pW, ss[j]])) := Same.upd hp
  have np := M2.ne hp
  refine ⟨_, rfl, m, l2, n + 1, 2, rfl, M2.same sp, by omega, by decide, by decide, fun r' l3 H3 r0' r2 M3 f3 => ?_⟩
  have T3 := (T2.same sp).step f3 M3
  have hv3 := (hv2.ext (Same.toN sp)).step ((M2.same sp).step f3)
  have i2 : ItD K H3 m l3 (.ref pW) := ⟨dW, T3.w, T3.gw⟩
  have i3 : ItD K H3 m l3 ss[j] := ((L2'.it _ (List.getElem_mem hj)).ext (Same.toN sp)).step ((M2.same sp).step f3)
  have F13 := (Fr.lead sp f3)
  have F := f2.trans F13
  obtain ⟨y, hy, d2, q2, g2⟩ : ∃ y, atI ([.ref pW, ss[j]] : List V) r' = some y ∧ ItD K H3 m l3 y := by
    obtain ⟨k, rfl⟩ : ∃ k : Nat, r' = (k : Int) := ⟨r'.toNat, by omega⟩
    have hk : k < 2 := by omega
    match k, hk with
    | 0, _ => exact ⟨_, rfl, i2⟩
    | 1, _ => exact ⟨_, rfl, i3⟩
  refine ⟨p, _, r', y, rfl, rfl, SqL.of (f3.keep _ _ upd_same np.1 np.2), hy, ?_⟩
  -- kept = ..
  obtain ⟨d1, q1, g1⟩ := hv3
  have gl : Gd (10 ^ 31) 200000 60 (.list [.tuple (prD ys), d1, d2]) := (Gd.lst ((Gl'.one ((spots_good T.so).mono (Nat.le_refl _) (Nat.le_refl _) (show 2 ≤ 38 by decide))).app ((Gl'.one g1).app (Gl'.one g2)))).mono (Nat.le_refl _) (by decide) (by decide)
  have shl := gl.shown (Nat.le_refl _)
  have dpl := gl.dp
  have lst : ∀ (G : Hp) (p : Addr), Tn K Pt G m l3 (n + 1 + 1) pS xs ys pP dP pW dW → G p = none → Dq K G m l3 v d1 → Dq K G m l3 y d2 → Dq K (upd G p (.lst [.ref pS, v, y])) m l3 (.ref p) (.list [.tuple (prD ys), d1, d2]) := fun G p TG hp z1 z2 => by
    have s' : Same G (upd G p (.lst [.ref pS, v, y])) := Same.upd hp
    have n' := TG.M.ne hp
    exact .lst upd_same n'.1 n'.2 (.cons (TG.same s').d (.cons (Dq.ext (Same.toN s') z1) (.cons (Dq.ext (Same.toN s') z2) .nil)))
  refine ⟨_, rfl, _, rfl, _, rfl, (by show 3 ≤ sizeLine; decide), fun p4 h4 => ?_⟩
  refine ⟨.ref p4, _, m, l3, rfl, lst H3 p4 T3 h4 q1 q2, shl.1, dpl, shl.2, ?_⟩
  have s4 : Same H3 (upd H3 p4 (.lst [.ref pS, v, y])) := Same.upd h4
  have T4 := T3.same s4
  -- told = ..
  refine ⟨T4.t, fun H5 e5 t5 => ?_⟩
  have e35 := (Same.toN s4).trans e5
  have T5 := T4.ext e5 t5
  refine ttb_of T5.M T5.so T5.d (Dq.ext e35 q1) (g1.short (by decide)) (Dq.ext e35 q2) (g2.short (by decide)) (fun Ec Qc H6 s6 z => ⟨_, rfl, _, rfl, _, rfl, rfl, rfl, z⟩) fun tv H7 s7 dq7 => ?_
  have e37 := e35.trans (Same.toN s7)
  have T7 := T5.same s7
  have sh := dueBg T.so g1 g2
  refine ⟨_, rfl, tv, _, m, l3, rfl, dq7, sh.1, sh.2.1, sh.2.2, ?_⟩
  refine ⟨_, rfl, _, rfl, _, rfl, due_same (E := fun _ _ _ => False) T7.M T7.so T7.s T7.x (Dq.ext e37 q1) g1 (Dq.ext e37 q2) g2 fun v' H8 s8 dq8 => ?_⟩
  have e38 := e37.trans (Same.toN s8)
  have T8 := T7.same s8
  refine ⟨v', _, m, l3, rfl, dq8, sh.1, sh.2.1, sh.2.2, rfl, _, rfl, iteNS rfl ?_⟩
  refine ⟨_, rfl, _, rfl, _, rfl, (by show 3 ≤ sizeLine; decide), fun p9 h9 => ?_⟩
  have s9 : Same H8 (upd H8 p9 (.lst [.ref pS, v, y])) := Same.upd h9
  refine ⟨.ref p9, _, m, l3, rfl, lst H8 p9 T8 h9 (Dq.ext e38 q1) (Dq.ext e38 q2), shl.1, dpl, shl.2, _, rfl, rfl, _, rfl, iteNS rfl ?_⟩
  exact nx _ _ _ l3 H3 _ F (M3.mono (by omega)) (e38.trans (Same.toN s9)) (T8.same s9).t
end
end Ms
namespace Ms
open PySem PySem.Spec PyProof.Rows L2 LamX
theorem dueGo_nodup : ∀ (qs : List (Str × Int)) (p : Nat) (seen : List Str) (many mm : Int), dueGo p seen many (prD qs) = .inr mm → (qs.map (·.1)).Nodup ∧ ∀ z ∈ seen, z ∉ qs.map (·.1)
  | [], _, _, _, _, _ => ⟨List.nodup_nil, fun _ _ h => nomatch h⟩
  | (z, c) :: qs, p, seen, many, mm, h => by
    have h' : dueGo p seen many (.tuple [.str z, .int c] :: prD qs) = .inr mm := h
    simp only [dueGo] at h'
    cases e : oneD (.tuple [.str z, .int c]) with
    | none => rw [e] at h'; cases h'
    | some zc =>
      have ez : zc.1 = z := by
        simp only [oneD] at e
        split at e
        · cases e; rfl
        · cases e
      obtain ⟨z', c'⟩ := zc
      have ez : z' = z := ez
      subst ez
      rw [e] at h'
      simp only at h'
      by_cases hs : z' ∈ seen
      · rw [if_pos hs] at h'; cases h'
      · rw [if_neg hs] at h'
        obtain ⟨h1, h2⟩ := dueGo_nodup qs _ _ _ _ h'
        refine ⟨?_, fun y hy hm => ?_⟩
        · rw [List.map_cons, List.nodup_cons]
          exact ⟨h2 z' (List.mem_append_right _ (List.mem_singleton.mpr rfl)), h1⟩
        · rcases List.mem_cons.mp hm with hm | hm
          · exact hs (by have hm' : y = z' := hm; rw [← hm']; exact hy)
          · exact h2 y (List.mem_append_left _ hy) hm
theorem prD_app (ys zs : List (Str × Int)) : prD ys ++ prD zs = prD (ys ++ zs) := by unfold prD; rw [List.map_append]
theorem twice_bad {ys : List (Str × Int)} (so : SetOk ys) : needV (.tuple (prD ys ++ prD ys)) ≠ none := fun h => by
  rw [prD_app] at h
  have h' : (if 1 ≤ (prD (ys ++ ys)).length ∧ (prD (ys ++ ys)).length ≤ 3 then (match dueGo 0 [] 1 (prD (ys ++ ys)) with | .inl p => some (V.int (p : Nat)) | .inr many => if many ≤ 12 then none else some (.str "many")) else some V.non) = none := h
  by_cases hl : 1 ≤ (prD (ys ++ ys)).length ∧ (prD (ys ++ ys)).length ≤ 3
  · rw [if_pos hl] at h'
    cases eg : dueGo 0 [] 1 (prD (ys ++ ys)) with
    | inl p => rw [eg] at h'; cases h'
    | inr mm =>
      have nd := (dueGo_nodup _ _ _ _ _ eg).1
      rw [List.map_append, List.nodup_append] at nd
      obtain ⟨q, r, e⟩ : ∃ q r, ys = q :: r := by
        cases ys with
        | nil => exact absurd so.len1 (by decide)
        | cons q r => exact ⟨q, r, rfl⟩
      have hm : q.1 ∈ ys.map (·.1) := by rw [e]; exact List.mem_cons_self ..
      exact nd.2.2 _ hm _ hm rfl
  · rw [if_neg hl] at h'; cases h'
/-- no book is made, and that is told -/
theorem ttb_bad {K : PySem.W.Frag} {C CS CT CW m l : Addr} {tl : XK → Hp → VK → Prop} {H2 : Hp} {Q : VK}
    (mk : ∀ (Ec : XK) (Qc : VK) (H3 : Hp), Same H2 H3 → (∀ (H4 : Hp) (v1 v2 v3 : V) (d1 d2 d3 : PyData) (B1 b1 : Nat), Same H3 H4 → Dq K H4 m l v1 d1 → Gd B1 100000 b1 d1 → needV d1 ≠ none → Dq K H4 m l v2 d2 → shortD d2 → Dq K H4 m l v3 d3 → shortD d3 →
      ∀ x dx, H4 x = none → H4 dx = none → dx ≠ x → spBook K C CS CT CW [.ref x, v1, v2, v3] (upd (upd H4 dx (.own x)) x (.ins C dx [])) (fun v H2 => v = .non ∧ Qc (.ref x) H2) Ec) → tl Ec H3 Qc)
    (key : ∀ (p : Addr) (u : V) (Hend : Hp), Hend p = some (.tup [.str "settings", u]) → Same H2 Hend → Q (.ref p) Hend) : TTb K C CS CT CW tl H2 Q := by
  intro H3 Ec Qc s3 hS hP hM hQ
  refine mk Ec Qc H3 s3 fun H4 v1 v2 v3 d1 d2 d3 B1 b1 s4 q1 g1 nn q2 g2 q3 g3 x dx hx hdx ne => ?_
  have s0 : Same H4 (upd (upd H4 dx (.own x)) x (.ins C dx [])) := (Same.upd hdx).trans (Same.upd (by rw [upd_ne ne.symm]; exact hx))
  refine ⟨m, l, x, dx, v1, v2, v3, d1, d2, d3, B1, b1, rfl, upd_same, Dq.same s0 _ _ q1, g1, Dq.same s0 _ _ q2, g2, Dq.same s0 _ _ q3, g3, fun u hu e H' _ k hd => hS e u H' hd fun p hp => key p u _ upd_same ?_, fun hn => absurd hn nn⟩
  have xs : Same H4 H' := fun b o e => k b o (ne_of_none e hx) (s0 b o e)
  exact (s3.trans s4).trans (xs.trans (Same.upd hp))
section
variable {P : Program} {w : World} {K : PySem.W.Frag} {mg : Str → Option Value} {base : Heap} {fN fM fO fB fBg fSe fBo fDu fTo C CS CT CW fR f c Pt : Addr} {fdN fdDu fdTo fdR : FuncData} {dns mk0 mk1 : List Value} {s : Shared} {H0 : Hp} {Eb : XK}
theorem law_last (Kn : Kn P w K mg base fBg fSe fBo fDu fTo C CS CT CW fR fdDu fdTo fdR dns mk0 mk1) (TB : TabB base mg c Pt) (hr : Room 9 (callerA.deeper (envOfC "law" (defScope sLaw) s.heap.objs.size f (.ref c)))) :
    ∃ t, PSs (cxOf CX0 P w K mg base NL "law" (defScope sLaw) f (.ref c) callerA [] s H0 Eb).nox (bTurn.drop 6) t ∧ ∀ (D : Ends) (H1 : Hp) (a m l : Addr) (n : Nat) (pS : Addr) (xs : List V) (ys : List (Str × Int)) (pP : Addr) (dP : PyData) (pW : Addr) (dW : PyData) (v2 v5 v6 v7 v8 v9 v10 v11 : Option V),
      Tn K Pt H1 m l n pS xs ys pP dP pW dW → (∀ (H2 : Hp), ExtN H1 H2 → Tabs [(Pt, lamQ)] H2 → D.nx [some (.ref a), some (.ref m), v2, some (.ref pS), some (.ref pP), v5, v6, v7, v8, v9, v10, v11] H2) →
      t D [some (.ref a), some (.ref m), v2, some (.ref pS), some (.ref pP), v5, v6, v7, v8, v9, v10, v11] H1 := by
  have gA : (callerA.deeper (envOfC "law" (defScope sLaw) s.heap.objs.size f (.ref c))).guards = some [] := rfl
  have hr3 : Room 3 (callerA.deeper (envOfC "law" (defScope sLaw) s.heap.objs.size f (.ref c))) := hr.mono (by decide)
  obtain ⟨oc, od, kV, doc, pm, an, cdv, ct, osl, efd, lk, hcd⟩ := Kn.FT.ex
  have TL := Kn.TL
  have cl := Kn.cl
  have bT := Kn.bT
  have kpT := Kn.FT.kp
  subst efd
  refine ⟨_, pss_cons (ps_if (pt_cmpR op_ne
        (pe_callB (call_reprD gA hr.units) (by rfl) TL.repr (by decide +kernel) (pa_cons (pe_lamcall (T := [(Pt, lamQ)]) (TT := TTb K C CS CT CW) (c := c) (P := Pt) (k := 7) (t := fun E => tMake C (spBook K C CS CT CW) [V.non, V.non] E (tCons (tVar 3) tNil)) (by rfl) TL.told kpT lk hcd bT scTo rfl (Or.inl rfl)
          (told_book cl.rc TL.mS TL.mT TL.mW cl.xSS cl.xPS cl.xPP cl.xMS cl.xMP cl.xMM cl.rS cl.rP cl.rM) TB rfl (List.mem_singleton.mpr rfl) (fun p hp _ => by rw [List.mem_singleton.mp hp]; rfl) hr (lamS_by (sc := defScope sLaw) (by decide +kernel)) rfl (fun _ _ _ _ _ => rfl)
          (fun A outer s H E f c' hr3 => pe_make cl.mkc Kn.GR (hr3.mono (by decide)) (by rfl) TL.cls Kn.b0 Kn.vd (passes_call (takes_of rfl rfl rfl rfl) fun _ _ _ _ h => h) (pa_cons (pv 3) pa_nil))) pa_nil))
        (pe_callB (call_reprD gA hr.units) (by rfl) TL.repr (by decide +kernel) (pa_cons (pe_callG Kn.GDu gA hr3 (by rfl) TL.due Kn.FDu.kp Kn.bDu .nil (pa_cons (pv 3) (pa_cons pe_non (pa_cons pe_non pa_nil)))) pa_nil)) (nomark _)) (pss_one (ps_ret pe_bl)) pss_nil)
    (pss_one (ps_if (pt_cmpR op_ne (pe_ix (show IxR _ (rIxT K) from ix_tup) (pe_lamcall (T := [(Pt, lamQ)]) (TT := TTb K C CS CT CW) (c := c) (P := Pt) (k := 7) (t := fun E => tMakeN C 1 2 (spBook K C CS CT CW) (fun vs zs => vs ++ [] ++ zs) E (tCons (tOp (rCatA K) (tVar 3) (tVar 3)) tNil) (tCons (tC (.int 5)) (tCons (tC (.int 5)) tNil))) (by rfl) TL.told kpT lk hcd bT scTo rfl (Or.inl rfl)
          (told_book cl.rc TL.mS TL.mT TL.mW cl.xSS cl.xPS cl.xPP cl.xMS cl.xMP cl.xMM cl.rS cl.rP cl.rM) TB rfl (List.mem_singleton.mpr rfl) (fun p hp _ => by rw [List.mem_singleton.mp hp]; rfl) hr (lamS_by (sc := defScope sLaw) (by decide +kernel)) rfl (fun _ _ _ _ _ => rfl)
          (fun A outer s H E f c' hr3 => pe_makeN (ks := ["starts", "switches"]) cl.mkc Kn.GR (hr3.mono (by decide)) (by rfl) TL.cls Kn.ks (passes_call (takes_of rfl rfl rfl rfl) fun _ _ _ _ h => h) (pa_cons (pe_op op_catA (pv 3) (pv 3)) pa_nil) (pk_cons pe_int (pk_cons pe_int pk_nil)))) pe_int (fun _ _ => rfl)) pe_str (nomark _)) (pss_one (ps_ret pe_bl)) pss_nil)), ?_⟩
  intro D H1 a m l n pS xs ys pP dP pW dW v2 v5 v6 v7 v8 v9 v10 v11 T nx
  refine ⟨T.t, fun H2 e2 t2 => ?_⟩
  have T2 := T.ext e2 t2
  refine ttb_of T2.M T2.so T2.d (d2 := .none) .non shortN (d3 := .none) .non shortN (fun Ec Qc H3 s3 z => ⟨_, rfl, z⟩) fun tv H4 s4 dq4 => ?_
  have T4 := T2.same s4
  have sh := dueBg (d2 := .none) (d3 := .none) T.so noneG noneG
  refine ⟨tv, _, m, l, rfl, dq4, sh.1, sh.2.1, sh.2.2, ?_⟩
  refine ⟨_, rfl, due_same (E := fun _ _ _ => False) T4.M T4.so T4.s T4.x (d2 := .none) .non noneG (d3 := .none) .non noneG fun v' H5 s5 dq5 => ?_⟩
  refine ⟨v', _, m, l, rfl, dq5, sh.1, sh.2.1, sh.2.2, rfl, _, rfl, iteNS rfl ?_⟩
  have T5 := T4.same s5
  have e15 := e2.trans (Same.toN (s4.trans s5))
  refine ⟨T5.t, fun H6 e6 t6 => ?_⟩
  have T6 := T5.ext e6 t6
  have e16 := e15.trans e6
  refine ttb_bad (m := m) (l := l) (fun Ec Qc H7 s7 z => ?_) fun p u Hend hp sE => ?_
  · have T7 := T6.same s7
    have lx : xs.length ≤ 3 := by
      have h1 := T7.x.len
      have h2 := prD_len ys
      have h3 := T7.so.len3
      omega
    refine ⟨_, rfl, _, rfl, catA_any T7.s T7.s (Nat.le_of_lt (small1000 (by omega))) fun p9 H9 s9 c9 => ?_⟩
    have T9 := T7.same s9
    have g9 : Gd (10 ^ 31) 1200 2 (.tuple (prD ys ++ prD ys)) := by
      obtain ⟨cc, ec, g⟩ := Gd.untup (spots_good T.so)
      have ec' : cc = 1 := by omega
      subst ec'
      exact (Gd.tup (g.app g)).mono (Nat.le_refl _) (by decide) (Nat.le_refl _)
    have s5 : shortD (.int 5) := fun _ z => nomatch z
    exact ⟨rfl, rfl, z H9 _ _ _ _ (.int 5) (.int 5) _ 2 s9 (.tup c9 (T9.x.app T9.x)) (g9.mono (Nat.le_refl _) (by decide) (Nat.le_refl _)) (twice_bad T.so) (.int 5) s5 (.int 5) s5⟩
  · refine ⟨p, _, 0, .str "settings", rfl, rfl, .inl (.inl hp), rfl, rfl, _, rfl, iteNS rfl ?_⟩
    exact nx Hend (e16.trans (Same.toN sE)) (T6.same sE).t
end
end Ms
namespace Ms
open PySem PySem.Spec PyProof.Rows L2 LamX
section
variable {P : Program} {w : World} {K : PySem.W.Frag} {mg : Str → Option Value} {base : Heap} {fN fM fO fB fBg fSe fBo fDu fTo C CS CT CW fR f c Pt : Addr} {fdN fdDu fdTo fdR : FuncData} {dns mk0 mk1 : List Value} {s : Shared} {H0 : Hp} {Eb : XK}
theorem law_loops (Kn : Kn P w K mg base fBg fSe fBo fDu fTo C CS CT CW fR fdDu fdTo fdR dns mk0 mk1) (T0 : TxtB mg fN fM fO fB) (FN : Fun K "_law_next" "_law_next" sNext fN fdN) (bN : Binds K fdN ["m", "many"] []) (TB : TabB base mg c Pt) (hr : Room 9 (callerA.deeper (envOfC "law" (defScope sLaw) s.heap.objs.size f (.ref c)))) :
    ∃ t, PSs (cxOf CX0 P w K mg base NL "law" (defScope sLaw) f (.ref c) callerA [] s H0 Eb).nox (bTurn.drop 4) t ∧ ∀ (D : Ends) (H1 : Hp) (a m l : Addr) (n : Nat) (pS : Addr) (xs : List V) (ys : List (Str × Int)) (pP : Addr) (dP : PyData) (pW : Addr) (dW : PyData) (F : Addr) (fs : List V) (S : Addr) (ss : List V) (v2 v8 v9 v10 v11 : Option V),
      Tn K Pt H1 m l n pS xs ys pP dP pW dW → n < 400000 → Ls K H1 m l F fs → fs.length = 5 → Ls K H1 m l S ss → ss.length = 5 →
      (∀ (v8 v9 v10 v11 : Option V) (l' : Addr) (H2 : Hp), Mch H2 m l' (n + 14) → Tabs [(Pt, lamQ)] H2 → D.nx [some (.ref a), some (.ref m), v2, some (.ref pS), some (.ref pP), some (.ref pW), some (.ref F), some (.ref S), v8, v9, v10, v11] H2) →
      t D [some (.ref a), some (.ref m), v2, some (.ref pS), some (.ref pP), some (.ref pW), some (.ref F), some (.ref S), v8, v9, v10, v11] H1 := by
  obtain ⟨t1, d1, z1⟩ := law_first (H0 := H0) (s := s) (f := f) (c := c) (Pt := Pt) (Eb := Eb) Kn T0 FN bN TB hr
  obtain ⟨t2, d2, z2⟩ := law_second (H0 := H0) (s := s) (f := f) (c := c) (Pt := Pt) (Eb := Eb) Kn TB hr
  obtain ⟨t3, d3, z3⟩ := law_last (H0 := H0) (s := s) (f := f) (c := c) (Pt := Pt) (Eb := Eb) Kn TB hr
  refine ⟨_, pss_cons (ps_for PassesOwn.never rfl (pi_list (pv 6)) (pg_name (i := 8) scL.nd rfl (by first | exact Or.inl rfl | exact Or.inr rfl)) d1)
    (pss_cons (ps_for PassesOwn.never rfl (pi_list (pv 7)) (pg_name (i := 9) scL.nd rfl (by first | exact Or.inl rfl | exact Or.inr rfl)) d2) d3), ?_⟩
  intro D H1 a m l n pS xs ys pP dP pW dW F fs S ss v2 v8 v9 v10 v11 T hn LF hF LS hS nx
  refine ⟨_, rfl, F, rfl, ⟨_, SqL.of LF.at_⟩, for_list (K := K) (a := F) (xs := fs) (fun i σ H7 => ∃ (v8 v9 v10 v11 : Option V) (l' : Addr), σ = [some (.ref a), some (.ref m), v2, some (.ref pS), some (.ref pP), some (.ref pW), some (.ref F), some (.ref S), v8, v9, v10, v11] ∧ Tn K Pt H7 m l' (n + 2 * i) pS xs ys pP dP pW dW ∧ Ls K H7 m l' F fs ∧ Ls K H7 m l' S ss)
    ⟨_, _, _, _, l, rfl, T, LF, LS⟩ (fun i σ H7 _ ⟨_, _, _, _, _, _, _, L7, _⟩ => SqL.of L7.at_) ?_ ?_⟩
  · rintro i x σ H7 hi ⟨v8, v9, v10, v11, l7, rfl, T7, LF7, LS7⟩
    have hx := List.mem_of_getElem? hi
    have hi7 : i < fs.length := (List.getElem?_eq_some_iff.mp hi).1
    exact z1 _ H7 a m l7 (n + 2 * i) pS xs ys pP dP pW dW S ss x v2 _ _ _ _ T7 (by omega) LS7 hS (LF7.it x hx) fun v9 v10 v11 l' H2 H3 f M2 e t3 =>
      ⟨_, v9, v10, v11, l', rfl, ((T7.step f M2).ext e t3).mono (by omega), (LF7.step T7.M f).ext e, (LS7.step T7.M f).ext e⟩
  · rintro σ H7 ⟨v8, v9, v10, v11, l7, rfl, T7, LF7, LS7⟩
    refine ⟨_, rfl, S, rfl, ⟨_, SqL.of LS7.at_⟩, for_list (K := K) (a := S) (xs := ss) (fun i σ H8 => ∃ (v9 : Option V), σ = [some (.ref a), some (.ref m), v2, some (.ref pS), some (.ref pP), some (.ref pW), some (.ref F), some (.ref S), v8, v9, v10, v11] ∧ ExtN H7 H8 ∧ Tabs [(Pt, lamQ)] H8)
      ⟨_, rfl, ExtN.refl H7, T7.t⟩ (fun i σ H8 _ ⟨_, _, e8, _⟩ => SqL.of (e8 _ _ LS7.at_ fun _ z => nomatch z)) ?_ ?_⟩
    · rintro i x σ H8 hi ⟨v9, rfl, e8, t8⟩
      have hx := List.mem_of_getElem? hi
      exact z2 _ H8 a m l7 _ pS xs ys pP dP pW dW x v2 _ _ _ _ _ _ (T7.ext e8 t8) ((LS7.it x hx).ext e8) fun H9 e9 t9 => ⟨_, rfl, e8.trans e9, t9⟩
    · rintro σ H8 ⟨v9, rfl, e8, t8⟩
      exact z3 _ H8 a m l7 _ pS xs ys pP dP pW dW v2 _ _ _ _ _ _ _ (T7.ext e8 t8) fun H9 e9 t9 => nx _ _ _ _ l7 H9 ((Mch.ext (e8.trans e9) T7.M).mono (by omega)) t9
end
end Ms
namespace Ms
open PySem PySem.Spec PyProof.Rows L2 LamX
theorem bent_call {K : PySem.W.Frag} {H : Hp} {m l : Addr} {n B a b : Nat} {v : V} {d : PyData} {Q : VK} (M : Mch H m l n) (hn : n < 600000) (dq : Dq K H m l v d) (gd : Gd B a b d) (hB : big ≤ B) (hB2 : B + 100 ≤ 10 ^ 31) (ha : a ≤ 50000) (hb : b ≤ 5)
    (q : ∀ (v' : V) (d' : PyData) (l' : Addr) (H' : Hp), Dq K H' m l' v' d' → Gd (B + 100) (2 * a + 200) (b + 2) d' → Mch H' m l' (n + 48) → Fr m l l' H H' → Q v' H') : spBent K 6 [.ref m, v] H Q E0 :=
  ⟨m, l, n, v, d, B, a, b, rfl, M, (by show n + 8 * 6 < 700000; omega), dq, gd, hB, hB2, ha, Nat.le_trans gd.dp hb, q⟩
theorem Dq.untup {K : PySem.W.Frag} {H : Hp} {m l a : Addr} {ds : List PyData} (h : Dq K H m l (.ref a) (.tuple ds)) : ∃ xs, SqT K H a xs ∧ DqAll K H m l xs ds := by
  cases h with
  | tup e t => exact ⟨_, e, t⟩
theorem cut_good {K : PySem.W.Frag} {H : Hp} {m l : Addr} {xs : List V} {ds : List PyData} {B a b : Nat} (lo hi : Option Int) (h : DqAll K H m l xs ds) (g : Gd B a b (.tuple ds)) : ∃ ds', DqAll K H m l (cutV xs lo hi) ds' ∧ Gd B a b (.tuple ds') := by
  obtain ⟨c, rfl, g'⟩ := Gd.untup g
  have g := g'
  refine ⟨_, (h.drop _).take _, Gd.tup (((g'.dr _).tk _).mono (Nat.le_refl _) ?_ (Nat.le_refl _))⟩
  have h1 := wA_split ds (HT.sIx xs.length 0 lo)
  have h2 := wA_split (ds.drop (HT.sIx xs.length 0 lo)) (HT.sIx xs.length xs.length hi - HT.sIx xs.length 0 lo)
  have h3 := g'.wt
  omega
section
variable {P : Program} {w : World} {K : PySem.W.Frag} {mg : Str → Option Value} {base : Heap} {fN fM fO fB f c Pt : Addr} {fdN fdB fdO : FuncData} {s : Shared} {H0 : Hp} {Eb : XK}
/-! ### seconds = [..], and what follows -/
theorem law_seconds {tT : TS} (T0 : TxtB mg fN fM fO fB) (FB : Fun K "_law_bent" "_law_bent" sBent fB fdB) (bB : Binds K fdB ["m", "thing"] []) (GB : FnOk P w K mg base CX0 8 fB fdB ["m", "thing"] (spBent K 6))
    (hr : Room 9 (callerA.deeper (envOfC "law" (defScope sLaw) s.heap.objs.size f (.ref c))))
    (dT : PSs (cxOf CX0 P w K mg base NL "law" (defScope sLaw) f (.ref c) callerA [] s H0 Eb).nox (bTurn.drop 4) tT)
    (zT : ∀ (D : Ends) (H1 : Hp) (a m l : Addr) (n : Nat) (pS : Addr) (xs : List V) (ys : List (Str × Int)) (pP : Addr) (dP : PyData) (pW : Addr) (dW : PyData) (F : Addr) (fs : List V) (S : Addr) (ss : List V) (v2 v8 v9 v10 v11 : Option V),
      Tn K Pt H1 m l n pS xs ys pP dP pW dW → n < 400000 → Ls K H1 m l F fs → fs.length = 5 → Ls K H1 m l S ss → ss.length = 5 →
      (∀ (v8 v9 v10 v11 : Option V) (l' : Addr) (H2 : Hp), Mch H2 m l' (n + 14) → Tabs [(Pt, lamQ)] H2 → D.nx [some (.ref a), some (.ref m), v2, some (.ref pS), some (.ref pP), some (.ref pW), some (.ref F), some (.ref S), v8, v9, v10, v11] H2) →
      tT D [some (.ref a), some (.ref m), v2, some (.ref pS), some (.ref pP), some (.ref pW), some (.ref F), some (.ref S), v8, v9, v10, v11] H1) :
    ∃ t, PSs (cxOf CX0 P w K mg base NL "law" (defScope sLaw) f (.ref c) callerA [] s H0 Eb).nox (bTurn.drop 3) t ∧ ∀ (D : Ends) (H1 : Hp) (a m l : Addr) (n : Nat) (pS : Addr) (xs : List V) (ys : List (Str × Int)) (pP : Addr) (dP : PyData) (pW : Addr) (ds : List PyData) (F : Addr) (fs : List V) (v2 v7 v8 v9 v10 v11 : Option V),
      Tn K Pt H1 m l n pS xs ys pP dP pW (.tuple ds) → n < 300000 → Gd big 3024 3 (.tuple ds) → Ls K H1 m l F fs → fs.length = 5 →
      (∀ (v7 v8 v9 v10 v11 : Option V) (l' : Addr) (H2 : Hp), Mch H2 m l' (n + 70) → Tabs [(Pt, lamQ)] H2 → D.nx [some (.ref a), some (.ref m), v2, some (.ref pS), some (.ref pP), some (.ref pW), some (.ref F), v7, v8, v9, v10, v11] H2) →
      t D [some (.ref a), some (.ref m), v2, some (.ref pS), some (.ref pP), some (.ref pW), some (.ref F), v7, v8, v9, v10, v11] H1 := by
  have hr8 : Room 8 (callerA.deeper (envOfC "law" (defScope sLaw) s.heap.objs.size f (.ref c))) := hr.mono (by decide)
  refine ⟨_, pss_cons (ps_set (i := 7) scL.nd rfl (by first | exact Or.inl rfl | exact Or.inr rfl) (pe_lst (pa_cons (pv 5) (pa_cons (pe_call GB hr8 (by rfl) T0.bent FB.kp bB .nil pass0 (pa_cons (pv 1) (pa_cons (pv 5) pa_nil)))
    (pa_cons (pe_revT (pv 5)) (pa_cons (pe_op op_catA (pv 5) (pe_slice sl_tupA (pv 5) po_none (po_some pe_int))) (pa_cons pe_non pa_nil))))))) dT, ?_⟩
  intro D H1 a m l n pS xs ys pP dP pW ds F fs v2 v7 v8 v9 v10 v11 T hn gz LF hF nx
  have lds : ds.length ≤ 3024 := by
    have h1 := gz.wt
    have h2 : (PyData.tuple ds).weight = PyData.weightAll ds := by simp only [PyData.weight]
    have := wA_len ds
    omega
  refine ⟨_, rfl, _, rfl, _, rfl, bent_call T.M (by omega) T.w gz (Nat.le_refl _) (by decide) (by decide) (by decide) fun y1 e1 l1 H2 q1 k1 M1 f1 => ?_⟩
  have T1 := T.step f1 M1
  have i1 := q1.toIt k1 (by decide) (by decide) (by decide)
  obtain ⟨ws, hw, dw⟩ := Dq.untup T1.w
  have lw : ws.length ≤ 3024 := by have := dw.len; omega
  obtain ⟨cc, ecc, gl⟩ := Gd.untup gz
  have ecc : cc = 2 := by omega
  subst ecc
  refine ⟨_, rfl, pW, ws, rfl, hw, fun p2 h2 => ?_⟩
  have s2 : Same H2 (upd H2 p2 (.tup ws.reverse)) := Same.upd h2
  have i2 : ItD K (upd H2 p2 (.tup ws.reverse)) m l1 (.ref p2) := Dq.toIt (.tup (.inl (.inl upd_same)) (DqAll.same' s2 dw.rev)) (Gd.tup gl.rv) (by decide) (by decide) (by decide)
  generalize upd H2 p2 (.tup ws.reverse) = H3 at s2 i2
  refine ⟨_, rfl, _, rfl, noPart ⟨1, rfl, slA_any (Same.seqT s2 hw) fun p4 H4 s4 c4 => ?_⟩⟩
  have s24 := s2.trans s4
  obtain ⟨ds', dc, gc⟩ := cut_good none (some 1) (DqAll.same' s24 dw) gz
  obtain ⟨cc, ecc, glc⟩ := Gd.untup gc
  have ecc : cc = 2 := by omega
  subst ecc
  refine catA_any (Same.seqT s24 hw) c4 (by
    have := cutV_length ws none (some 1)
    rw [sizeLine_eq]
    omega) fun p5 H5 s5 c5 => ?_
  have s25 := s24.trans s5
  have T5 := T1.same s25
  have i5 : ItD K H5 m l1 (.ref p5) := Dq.toIt (.tup c5 ((DqAll.same' s25 dw).app (DqAll.same' s5 dc))) (Gd.tup (gl.app glc)) (by decide) (by decide) (by decide)
  refine ⟨(by show 5 ≤ sizeLine; decide), fun S hS => ?_⟩
  have nS := T5.M.ne hS
  have sS : Same H5 (upd H5 S (.lst [.ref pW, y1, .ref p2, .ref p5, .non])) := Same.upd hS
  have items : ∀ x ∈ ([.ref pW, y1, .ref p2, .ref p5, .non] : List V), ItD K (upd H5 S (.lst [.ref pW, y1, .ref p2, .ref p5, .non])) m l1 x := fun x hx => by
    simp only [List.mem_cons, List.mem_nil_iff, or_false] at hx
    rcases hx with rfl | rfl | rfl | rfl | rfl
    · exact (Dq.toIt T5.w gz (by decide) (by decide) (by decide)).ext (Same.toN sS)
    · exact (i1.ext (Same.toN s25)).ext (Same.toN sS)
    · exact (i2.ext (Same.toN (s4.trans s5))).ext (Same.toN sS)
    · exact i5.ext (Same.toN sS)
    · exact ⟨.none, .non, noneG⟩
  have LF5 : Ls K H5 m l1 F fs := (LF.step T.M f1).ext (Same.toN s25)
  have nFS : F ≠ S := ne_of_none LF5.at_ hS
  exact zT D _ a m l1 (n + 48) pS xs ys pP dP pW (.tuple ds) F fs S _ v2 _ _ _ _ (T5.same sS) (by omega) (LF5.ext (Same.toN sS)) hF ⟨upd_same, nS.2, items⟩ rfl fun v8 v9 v10 v11 l' H2' M' t' => nx _ v8 v9 v10 v11 l' H2' (M'.mono (by omega)) t'
/-! ### firsts = [..], and what follows -/
theorem law_firsts {tT : TS} (T0 : TxtB mg fN fM fO fB) (FB : Fun K "_law_bent" "_law_bent" sBent fB fdB) (bB : Binds K fdB ["m", "thing"] []) (GB : FnOk P w K mg base CX0 8 fB fdB ["m", "thing"] (spBent K 6))
    (hr : Room 9 (callerA.deeper (envOfC "law" (defScope sLaw) s.heap.objs.size f (.ref c))))
    (dT : PSs (cxOf CX0 P w K mg base NL "law" (defScope sLaw) f (.ref c) callerA [] s H0 Eb).nox (bTurn.drop 3) tT)
    (zT : ∀ (D : Ends) (H1 : Hp) (a m l : Addr) (n : Nat) (pS : Addr) (xs : List V) (ys : List (Str × Int)) (pP : Addr) (dP : PyData) (pW : Addr) (ds : List PyData) (F : Addr) (fs : List V) (v2 v7 v8 v9 v10 v11 : Option V),
      Tn K Pt H1 m l n pS xs ys pP dP pW (.tuple ds) → n < 300000 → Gd big 3024 3 (.tuple ds) → Ls K H1 m l F fs → fs.length = 5 →
      (∀ (v7 v8 v9 v10 v11 : Option V) (l' : Addr) (H2 : Hp), Mch H2 m l' (n + 70) → Tabs [(Pt, lamQ)] H2 → D.nx [some (.ref a), some (.ref m), v2, some (.ref pS), some (.ref pP), some (.ref pW), some (.ref F), v7, v8, v9, v10, v11] H2) →
      tT D [some (.ref a), some (.ref m), v2, some (.ref pS), some (.ref pP), some (.ref pW), some (.ref F), v7, v8, v9, v10, v11] H1) :
    ∃ t, PSs (cxOf CX0 P w K mg base NL "law" (defScope sLaw) f (.ref c) callerA [] s H0 Eb).nox (bTurn.drop 2) t ∧ ∀ (D : Ends) (H1 : Hp) (a m l : Addr) (n : Nat) (pS : Addr) (xs : List V) (ys : List (Str × Int)) (pP : Addr) (ds : List PyData) (pW : Addr) (es : List PyData) (v2 v6 v7 v8 v9 v10 v11 : Option V),
      Tn K Pt H1 m l n pS xs ys pP (.tuple ds) pW (.tuple es) → n < 200000 → Gd big 3024 3 (.tuple ds) → Gd big 3024 3 (.tuple es) →
      (∀ (v6 v7 v8 v9 v10 v11 : Option V) (l' : Addr) (H2 : Hp), Mch H2 m l' (n + 130) → Tabs [(Pt, lamQ)] H2 → D.nx [some (.ref a), some (.ref m), v2, some (.ref pS), some (.ref pP), some (.ref pW), v6, v7, v8, v9, v10, v11] H2) →
      t D [some (.ref a), some (.ref m), v2, some (.ref pS), some (.ref pP), some (.ref pW), v6, v7, v8, v9, v10, v11] H1 := by
  have hr8 : Room 8 (callerA.deeper (envOfC "law" (defScope sLaw) s.heap.objs.size f (.ref c))) := hr.mono (by decide)
  refine ⟨_, pss_cons (ps_set (i := 6) scL.nd rfl (by first | exact Or.inl rfl | exact Or.inr rfl) (pe_lst (pa_cons (pv 4) (pa_cons (pe_call GB hr8 (by rfl) T0.bent FB.kp bB .nil pass0 (pa_cons (pv 1) (pa_cons (pv 4) pa_nil)))
    (pa_cons (pe_revT (pv 4)) (pa_cons (pe_op op_catA (pv 4) (pe_slice sl_tupA (pv 4) po_none (po_some pe_int))) (pa_cons pe_non pa_nil))))))) dT, ?_⟩
  intro D H1 a m l n pS xs ys pP ds pW es v2 v6 v7 v8 v9 v10 v11 T hn gz gw nx
  have lds : ds.length ≤ 3024 := by
    have h1 := gz.wt
    have h2 : (PyData.tuple ds).weight = PyData.weightAll ds := by simp only [PyData.weight]
    have := wA_len ds
    omega
  refine ⟨_, rfl, _, rfl, _, rfl, bent_call T.M (by omega) T.p gz (Nat.le_refl _) (by decide) (by decide) (by decide) fun y1 e1 l1 H2 q1 k1 M1 f1 => ?_⟩
  have T1 := T.step f1 M1
  have i1 := q1.toIt k1 (by decide) (by decide) (by decide)
  obtain ⟨ws, hw, dw⟩ := Dq.untup T1.p
  have lw : ws.length ≤ 3024 := by have := dw.len; omega
  obtain ⟨cc, ecc, gl⟩ := Gd.untup gz
  have ecc : cc = 2 := by omega
  subst ecc
  refine ⟨_, rfl, pP, ws, rfl, hw, fun p2 h2 => ?_⟩
  have s2 : Same H2 (upd H2 p2 (.tup ws.reverse)) := Same.upd h2
  have i2 : ItD K (upd H2 p2 (.tup ws.reverse)) m l1 (.ref p2) := Dq.toIt (.tup (.inl (.inl upd_same)) (DqAll.same' s2 dw.rev)) (Gd.tup gl.rv) (by decide) (by decide) (by decide)
  generalize upd H2 p2 (.tup ws.reverse) = H3 at s2 i2
  refine ⟨_, rfl, _, rfl, noPart ⟨1, rfl, slA_any (Same.seqT s2 hw) fun p4 H4 s4 c4 => ?_⟩⟩
  have s24 := s2.trans s4
  obtain ⟨ds', dc, gc⟩ := cut_good none (some 1) (DqAll.same' s24 dw) gz
  obtain ⟨cc, ecc, glc⟩ := Gd.untup gc
  have ecc : cc = 2 := by omega
  subst ecc
  refine catA_any (Same.seqT s24 hw) c4 (by
    have := cutV_length ws none (some 1)
    rw [sizeLine_eq]
    omega) fun p5 H5 s5 c5 => ?_
  have s25 := s24.trans s5
  have T5 := T1.same s25
  have i5 : ItD K H5 m l1 (.ref p5) := Dq.toIt (.tup c5 ((DqAll.same' s25 dw).app (DqAll.same' s5 dc))) (Gd.tup (gl.app glc)) (by decide) (by decide) (by decide)
  refine ⟨(by show 5 ≤ sizeLine; decide), fun S hS => ?_⟩
  have nS := T5.M.ne hS
  have sS : Same H5 (upd H5 S (.lst [.ref pP, y1, .ref p2, .ref p5, .non])) := Same.upd hS
  have items : ∀ x ∈ ([.ref pP, y1, .ref p2, .ref p5, .non] : List V), ItD K (upd H5 S (.lst [.ref pP, y1, .ref p2, .ref p5, .non])) m l1 x := fun x hx => by
    simp only [List.mem_cons, List.mem_nil_iff, or_false] at hx
    rcases hx with rfl | rfl | rfl | rfl | rfl
    · exact (Dq.toIt T5.p gz (by decide) (by decide) (by decide)).ext (Same.toN sS)
    · exact (i1.ext (Same.toN s25)).ext (Same.toN sS)
    · exact (i2.ext (Same.toN (s4.trans s5))).ext (Same.toN sS)
    · exact i5.ext (Same.toN sS)
    · exact ⟨.none, .non, noneG⟩
  exact zT D _ a m l1 (n + 48) pS xs ys pP (.tuple ds) pW es S _ v2 _ _ _ _ _ (T5.same sS) (by omega) gw ⟨upd_same, nS.2, items⟩ rfl fun v7 v8 v9 v10 v11 l' H2' M' t' => nx _ v7 v8 v9 v10 v11 l' H2' (M'.mono (by omega)) t'
/-! ### the turn's head -/
theorem prs_small {qs : List (Str × Int)} {es : List (List Int × List Int)} (g12 : (grid qs).length ≤ 12) (h : PrsOk qs es) : es.length ≤ 144 ∧ ∀ p ∈ es, p.1 ∈ grid qs ∧ p.2 ∈ grid qs := by
  have h3 : (grid qs).length * (grid qs).length ≤ 12 * 12 := Nat.mul_le_mul g12 g12
  rcases h with h | h | ⟨zs, rfl, _, h, hl⟩
  · have := h.length_le
    have := nearL_le (grid qs) (grid qs)
    exact ⟨by omega, fun p hp => nearL_in (h.subset hp)⟩
  · have := h.length_le
    have := pairsL_le (grid qs) (grid qs)
    exact ⟨by omega, fun p hp => have q := mem_pairsL.mp (show (p.1, p.2) ∈ pairsL (grid qs) (grid qs) from h.subset hp); ⟨q.1, q.2.1⟩⟩
  · refine ⟨by rw [List.length_map, List.length_mergeSort]; omega, fun p hp => ?_⟩
    obtain ⟨z, hz, rfl⟩ := List.mem_map.mp hp
    have q := h z (List.mem_mergeSort.mp hz)
    exact ⟨q.1, q.2.1⟩
theorem many_pos : ∀ (qs : List (Str × Int)) (m : Int), 1 ≤ m → (∀ q ∈ qs, 1 ≤ q.2) → 1 ≤ qs.foldl (fun m q => m * (q.2 + 1)) m
  | [], m, h, _ => h
  | q :: qs, m, h, hq => by
    have h1 := hq q (List.mem_cons_self ..)
    have : 0 < m * (q.2 + 1) := Int.mul_pos (by omega) (by omega)
    exact many_pos qs _ (by show 1 ≤ m * (q.2 + 1); omega) fun x hx => hq x (List.mem_cons_of_mem _ hx)
theorem SetOk.g1 {ys : List (Str × Int)} (so : SetOk ys) : 1 ≤ (grid ys).length := by
  have g := grid_many ys so.most
  have h := many_pos ys 1 (by decide) fun q hq => (so.most q hq).1
  have : 1 ≤ many ys := h
  omega
theorem law_head {tT : TS} {fSe fBg fBo fDu fTo C CS CT CW : Addr} {fdS fdBo : FuncData} (TL : TLb mg fBg fSe fBo fDu fTo C CS CT CW)
    (FS : Fun K "_law_settings" "_law_settings" sSettings fSe fdS) (bS : Binds K fdS ["m"] []) (GS : FnOk P w K mg base CX0 3 fSe fdS ["m"] spSettingsV)
    (FBo : Fun K "_law_book" "_law_book" sLBook fBo fdBo) (bBo : Binds K fdBo ["m", "spots"] []) (GBo : FnOk P w K mg base CX0 3 fBo fdBo ["m", "spots"] (spLBook K))
    (hr : Room 9 (callerA.deeper (envOfC "law" (defScope sLaw) s.heap.objs.size f (.ref c))))
    (dT : PSs (cxOf CX0 P w K mg base NL "law" (defScope sLaw) f (.ref c) callerA [] s H0 Eb).nox (bTurn.drop 2) tT)
    (zT : ∀ (D : Ends) (H1 : Hp) (a m l : Addr) (n : Nat) (pS : Addr) (xs : List V) (ys : List (Str × Int)) (pP : Addr) (ds : List PyData) (pW : Addr) (es : List PyData) (v2 v6 v7 v8 v9 v10 v11 : Option V),
      Tn K Pt H1 m l n pS xs ys pP (.tuple ds) pW (.tuple es) → n < 200000 → Gd big 3024 3 (.tuple ds) → Gd big 3024 3 (.tuple es) →
      (∀ (v6 v7 v8 v9 v10 v11 : Option V) (l' : Addr) (H2 : Hp), Mch H2 m l' (n + 130) → Tabs [(Pt, lamQ)] H2 → D.nx [some (.ref a), some (.ref m), v2, some (.ref pS), some (.ref pP), some (.ref pW), v6, v7, v8, v9, v10, v11] H2) →
      tT D [some (.ref a), some (.ref m), v2, some (.ref pS), some (.ref pP), some (.ref pW), v6, v7, v8, v9, v10, v11] H1) :
    ∃ t, PSs (cxOf CX0 P w K mg base NL "law" (defScope sLaw) f (.ref c) callerA [] s H0 Eb).nox bTurn t ∧ ∀ (D : Ends) (H1 : Hp) (a m l : Addr) (n : Nat) (v2 v3 v4 v5 v6 v7 v8 v9 v10 v11 : Option V),
      Mch H1 m l n → n < 50000 → Tabs [(Pt, lamQ)] H1 →
      (∀ (v3 v4 v5 v6 v7 v8 v9 v10 v11 : Option V) (l' : Addr) (H2 : Hp), Mch H2 m l' (n + 500) → Tabs [(Pt, lamQ)] H2 → D.nx [some (.ref a), some (.ref m), v2, v3, v4, v5, v6, v7, v8, v9, v10, v11] H2) →
      t D [some (.ref a), some (.ref m), v2, v3, v4, v5, v6, v7, v8, v9, v10, v11] H1 := by
  have hr3 : Room 3 (callerA.deeper (envOfC "law" (defScope sLaw) s.heap.objs.size f (.ref c))) := hr.mono (by decide)
  refine ⟨_, pss_cons (ps_set (i := 3) scL.nd rfl (by first | exact Or.inl rfl | exact Or.inr rfl) (pe_call GS hr3 (by rfl) TL.settings FS.kp bS .nil pass0 (pa_cons (pv 1) pa_nil)))
    (pss_cons (ps_asg (pe_call GBo hr3 (by rfl) TL.book FBo.kp bBo .nil pass0 (pa_cons (pv 1) (pa_cons (pv 3) pa_nil)))
      (pg_tup rfl (pgs_cons (pg_name (i := 4) scL.nd rfl (by first | exact Or.inl rfl | exact Or.inr rfl)) (pgs_cons (pg_name (i := 5) scL.nd rfl (by first | exact Or.inl rfl | exact Or.inr rfl)) pgs_nil)))) dT), ?_⟩
  intro D H1 a m l n v2 v3 v4 v5 v6 v7 v8 v9 v10 v11 M hn tb nx
  refine ⟨_, rfl, m, l, n, rfl, M, by omega, fun pS as ys l1 H2 gp pr so M1 f1 => ?_⟩
  have hs2 : SqT K H2 pS (as.map V.ref) := .inl (.inl gp)
  refine ⟨_, rfl, _, rfl, m, l1, pS, n + 12, as.map V.ref, ys, rfl, M1, by omega, hs2, prD_trs (m := m) (l := l1) _ _ pr.dq, so.len1, so.len3, so.most, so.g12, so.g1, fun p pb pp l3 H3 g3 br M3 f3 => ?_⟩
  obtain ⟨bs, es, ws, ws', gb, rb, sb, gpp, pq, ok⟩ := br
  have k3 := M1.step f3
  refine ⟨p, _, rfl, .inl (.inl g3), rfl, _, _, rfl, _, _, rfl, rfl, ?_⟩
  have tb3 := Tabs.fr M (f1.trans f3) tb
  obtain ⟨el, em⟩ := prs_small so.g12 ok
  have gB : Gd big 3024 3 (.tuple (bs.map rowD)) := (Gd.tup (rows_gl _ fun r hr => grid_smallR so.len3 so.most (sb.subset hr))).mono (Nat.le_refl _) (by have := sb.length_le; have := so.g12; omega) (by decide)
  have gW : Gd big 3024 3 (.tuple (es.map fun q => pairD q.1 q.2)) := (Gd.tup (pairs_gl _ fun p hp => ⟨grid_smallR so.len3 so.most (em p hp).1, grid_smallR so.len3 so.most (em p hp).2⟩)).mono (Nat.le_refl _) (by omega) (by decide)
  have T3 : Tn K Pt H3 m l3 (n + 12 + 200) pS (as.map V.ref) ys pb (.tuple (bs.map rowD)) pp (.tuple (es.map fun q => pairD q.1 q.2)) :=
    ⟨M3, tb3, so, k3.tup hs2, DqAll.step k3 _ _ pr.dq, .tup (.inl (.inl gb)) rb.dq, gB.mono (by decide) (by decide) (by decide), .tup (.inl (.inl gpp)) pq.dq, gW.mono (by decide) (by decide) (by decide)⟩
  exact zT D _ a m l3 _ pS _ ys pb _ pp _ v2 _ _ _ _ _ _ T3 (by omega) gB gW fun v6 v7 v8 v9 v10 v11 l' H2' M' t' => nx _ _ _ v6 v7 v8 v9 v10 v11 l' H2' (M'.mono (by omega)) t'
end
end Ms
namespace Ms
open PySem PySem.Spec PyProof.Rows L2 LamX
section
variable {P : Program} {w : World} {K : PySem.W.Frag} {mg : Str → Option Value} {fN fM fO fB fBg fSe fBo fDu fTo fFt fLs fLn fLp fPk C CS CT CW fR f c Pt pI pN pS pA pG fNd fSt fSw fFw fMv fNr fGr fAr fLt fNT fNW fNe fES fET fEW : Addr}
theorem ok_law {fd fdBg fdN fdM fdS fdO fdB fdBo fdDu fdTo fdFt fdLs fdLn fdLp fdPk fdI fdPn fdPs fdPa fdPg fdNd fdSt fdSw fdFw fdMv fdNr fdGr fdAr fdLt fdNT fdNW fdNe fdR fdES fdET fdEW : FuncData} {q1 q2 q3 qual : Str}
    (T0 : TxtB mg fN fM fO fB) (TB : TxtLb mg) (TF : TxtF mg) (TG : TxtG mg) (TP : TxtP mg pI pN pS pA pG) (TL : TLb mg fBg fSe fBo fDu fTo C CS CT CW) (cl : Cl4 K C CS CT CW fR)
    (gFt : mg "_law_fault" = some (.ref fFt)) (gLs : mg "_law_standings" = some (.ref fLs)) (gLn : mg "_law_near" = some (.ref fLn)) (gLp : mg "_law_pairs" = some (.ref fLp)) (gPk : mg "_law_picked" = some (.ref fPk))
    (gNd : mg "need_settings" = some (.ref fNd)) (gSt : mg "is_standing" = some (.ref fSt)) (gSw : mg "is_switch" = some (.ref fSw)) (gFw : mg "first_wrong" = some (.ref fFw)) (gMv : mg "moved" = some (.ref fMv)) (gNr : mg "near_to" = some (.ref fNr)) (gGr : mg "groups_of" = some (.ref fGr)) (gAr : mg "all_reached" = some (.ref fAr)) (gLt : mg "later_groups" = some (.ref fLt))
    (gNT : mg "need_starts" = some (.ref fNT)) (gNW : mg "need_switches" = some (.ref fNW)) (gNe : mg "near_pairs" = some (.ref fNe))
    (F : Fun K "law" "law" sLaw f fd) (hc : fd.code = .ref c) (bL : ∀ (s : Shared) (u : Value), BindsTo s fd ⟨[u], []⟩ [("script", u)])
    (FBg : Fun K "_law_begun" "_law_begun" sBegun fBg fdBg) (bBg : Binds K fdBg ["script"] []) (FN : Fun K "_law_next" "_law_next" sNext fN fdN) (bN : Binds K fdN ["m", "many"] []) (FM : Fun K "_law_names" "_law_names" sNames fM fdM) (bM : Binds K fdM ["m", "many"] [])
    (FS : Fun K "_law_settings" "_law_settings" sSettings fSe fdS) (bS : Binds K fdS ["m"] []) (FO : Fun K "_law_odd" "_law_odd" sOdd fO fdO) (bO : Binds K fdO ["m"] []) (FB : Fun K "_law_bent" "_law_bent" sBent fB fdB) (bB : Binds K fdB ["m", "thing"] [])
    (FBo : Fun K "_law_book" "_law_book" sLBook fBo fdBo) (bBo : Binds K fdBo ["m", "spots"] []) (FFt : Fun K "_law_fault" "_law_fault" sFault fFt fdFt) (bFt : Binds K fdFt ["some", "thing"] [])
    (FLs : Fun K "_law_standings" "_law_standings" sStandings fLs fdLs) (bLs : Binds K fdLs ["spots"] []) (FLn : Fun K "_law_near" "_law_near" sLNear fLn fdLn) (bLn : Binds K fdLn ["spots"] [])
    (FLp : Fun K "_law_pairs" "_law_pairs" sLPairs fLp fdLp) (bLp : Binds K fdLp ["spots"] []) (FPk : Fun K "_law_picked" "_law_picked" sPicked fPk fdPk) (bPk : Binds K fdPk ["m", "some", "part"] [])
    (FDu : Fun K "_law_due" "_law_due" sDue fDu fdDu) (bDu : Binds K fdDu ["spots", "begin", "pairs"] []) (FT : Fun K "_law_told" "_law_told" sTold fTo fdTo) (bT : Binds K fdTo ["call"] [])
    (FR : FunD K "__init__" qual (defArgs sBookIni) (defBody sBookIni) (defScope sBookIni) [] kwBk fR fdR)
    (TS : ErrC K CS fES) (TT : ErrC K CT fET) (TW : ErrC K CW fEW)
    (FES : Fun K "__init__" q1 sIni fES fdES) (bES : Binds K fdES ["self", "place"] []) (FET : Fun K "__init__" q2 sIniSt fET fdET) (bET : Binds K fdET ["self", "place"] []) (FEW : Fun K "__init__" q3 sIniSw fEW fdEW) (bEW : Binds K fdEW ["self", "place"] [])
    (FI : Fun K "is_int" "is_int" sPInt pI fdI) (bI : Binds K fdI ["thing"] []) (FPn : Fun K "is_name" "is_name" sPName pN fdPn) (bPn : Binds K fdPn ["thing"] []) (FPs : Fun K "is_setting" "is_setting" sPSet pS fdPs) (bPs : Binds K fdPs ["thing"] [])
    (FPa : Fun K "names_of" "names_of" sPNames pA fdPa) (bPa : Binds K fdPa ["settings"] []) (FPg : Fun K "grid_of" "grid_of" sPGrid pG fdPg) (bPg : Binds K fdPg ["settings"] []) (FNd : Fun K "need_settings" "need_settings" sNeed fNd fdNd) (bNd : Binds K fdNd ["thing"] [])
    (FSt : Fun K "is_standing" "is_standing" sPStand fSt fdSt) (bSt : Binds K fdSt ["settings", "thing"] []) (FSw : Fun K "is_switch" "is_switch" sPSwitch fSw fdSw) (bSw : Binds K fdSw ["settings", "thing"] []) (FFw : Fun K "first_wrong" "first_wrong" sFirstW fFw fdFw) (bFw : Binds K fdFw ["things", "good"] [])
    (FMv : Fun K "moved" "moved" sMoved fMv fdMv) (bMv : Binds K fdMv ["standing", "at", "way"] []) (FNr : Fun K "near_to" "near_to" sNearTo fNr fdNr) (bNr : Binds K fdNr ["settings", "standing"] []) (FNe : Fun K "near_pairs" "near_pairs" sNear fNe fdNe) (bNe : Binds K fdNe ["settings", "grid"] [])
    (FGr : Fun K "groups_of" "groups_of" sGroups fGr fdGr) (bGr : Binds K fdGr ["grid", "switches"] []) (FAr : Fun K "all_reached" "all_reached" sReached fAr fdAr) (bAr : Binds K fdAr ["grid", "switches"] []) (FLt : Fun K "later_groups" "later_groups" sLater fLt fdLt) (bLt : Binds K fdLt ["many", "numbers", "switches"] [])
    (FNT : Fun K "need_starts" "need_starts" sNStarts fNT fdNT) (bNT : Binds K fdNT ["settings", "starts"] []) (FNW : Fun K "need_switches" "need_switches" sNSwitches fNW fdNW) (bNW : Binds K fdNW ["settings", "switches"] []) : LawRunT P w K mg f c Pt := by
  intro base H s a ns kin glob TBs hT hS hlen st0
  have GBg : FnOk P w K mg base CX0 1 fBg fdBg ["script"] (spBegun K) := ok_begun FBg T0.toTxt
  have GS : FnOk P w K mg base CX0 3 fSe fdS ["m"] spSettingsV := ok_settingsV FS T0.toTxtS FN bN FM bM
  have GO : FnOk P w K mg base CX0 2 fO fdO ["m"] (spOdd K) := ok_odd FO T0.toTxtS FN bN
  have GB : FnOk P w K mg base CX0 8 fB fdB ["m", "thing"] (spBent K 6) := ok_bent FB bB T0 FN bN FO bO 6
  have GBo : FnOk P w K mg base CX0 3 fBo fdBo ["m", "spots"] (spLBook K) := ok_lbook FBo T0.toTxtS TB FN bN gLs FLs bLs gLn FLn bLn gLp FLp bLp gPk FPk bPk
  have GDu : FnG P w K mg base 3 fDu fdDu ["spots", "begin", "pairs"] (spDueB K) := ok_dueB FDu T0.toTxtS TB TF gFt FFt bFt gLs FLs bLs gLn FLn bLn gLp FLp bLp
  have GR : FnOk P w K mg base (L2.CX P w) 5 fR fdR NBk (spBook K C CS CT CW) := ok_bookini FR TP cl.rc TB.zip TG gNd gSt gSw gFw gMv gNr gGr gAr gLt gNT gNW gNe TL.mS TS TL.mT TT TL.mW TW FES bES FET bET FEW bEW FI bI FPn bPn FPs bPs FPa bPa FPg bPg FNd bNd FSt bSt FSw bSw FFw bFw FMv bMv FNr bNr FNe bNe FGr bGr FAr bAr FLt bLt FNT bNT FNW bNW
  obtain ⟨dns, vd, b0⟩ := book_b0 FR
  obtain ⟨mk0, ks⟩ := book_ks FR
  obtain ⟨mk1, kw⟩ := book_kw FR
  have Kn : Kn P w K mg base fBg fSe fBo fDu fTo C CS CT CW fR fdDu fdTo fdR dns mk0 mk1 := ⟨TL, cl, GR, b0, vd, ks, kw, FDu, bDu, GDu, FT, bT⟩
  refine run_code (k := 9) (N := NL) (ps := ["script"]) (us := [.ref a]) (vs := [.ref a]) F scL rfl ⟨rfl, by decide, by decide⟩ st0 (bL s _) (.cons rfl .nil) rfl fun cdv ec hr => ?_
  have ecv : cdv = .ref c := ec.symm.trans hc
  subst ecv
  obtain ⟨t1, d1, z1⟩ := law_loops (H0 := H) (s := s) (f := f) (c := c) (Pt := Pt) (Eb := fun _ _ _ => False) Kn T0 FN bN TBs hr
  obtain ⟨t2, d2, z2⟩ := law_seconds (base := base) (H0 := H) (Pt := Pt) T0 FB bB GB hr d1 z1
  obtain ⟨t4, d4, z4⟩ := law_firsts (H0 := H) (Pt := Pt) T0 FB bB GB hr d2 z2
  obtain ⟨t6, d6, z6⟩ := law_head (H0 := H) (Pt := Pt) TL FS bS GS FBo bBo GBo hr d4 z4
  clear z1 z2 z4 d1 d2 d4
  have hr1 : Room 1 (callerA.deeper (envOfC "law" (defScope sLaw) s.heap.objs.size f (.ref c))) := hr.mono (by decide)
  refine ⟨_, pss_cons (ps_set (i := 1) scL.nd rfl (by first | exact Or.inl rfl | exact Or.inr rfl) (pe_call GBg hr1 (by rfl) TL.begun FBg.kp bBg .nil pass0 (pa_cons (pv 0) pa_nil)))
    (pss_cons (ps_for PassesOwn.never rfl (pi_range1 (by rfl) T0.range (pa_cons (pe_op op_add pe_int (pe_callB (call_min2 rfl) (by rfl) TL.min (by decide +kernel) (pa_cons (pe_callB call_len_seq (by rfl) T0.len PySem.boot_len (pa_cons (pv 0) pa_nil)) (pa_cons pe_int pa_nil)))) pa_nil)) (pg_name (i := 2) scL.nd rfl (by first | exact Or.inl rfl | exact Or.inr rfl)) d6)
    (pss_one (ps_ret pe_bl))), ?_⟩
  refine ⟨_, rfl, a, ns, rfl, hS, hlen, fun m l H1 hm hl s1 M1 => ?_⟩
  have lenM : (ns.map V.int).length = ns.length := List.length_map ..
  refine ⟨_, rfl, a, _, rfl, .inl (s1.seq hS), _, _, rfl, _, _, rfl, rfl, _, rfl, (by rw [lenM]; split <;> omega), (by rw [lenM]; split <;> omega), ?_⟩
  generalize hj : (3 + if (8 : Int) < ((ns.map V.int).length : Nat) then (8 : Int) else ((ns.map V.int).length : Nat)) = j
  have hj16 : j ≤ 11 := by rw [← hj]; split <;> omega
  have tb1 : Tabs [(Pt, lamQ)] H1 := fun p hp => by
    rw [List.mem_singleton.mp hp]
    exact TabS.nil (s1 _ _ hT)
  refine for_range (lo := 0) (n := j.toNat) (fun i σ H2 => ∃ (v2 v3 v4 v5 v6 v7 v8 v9 v10 v11 : Option V) (l n : Nat), σ = [some (.ref a), some (.ref m), v2, v3, v4, v5, v6, v7, v8, v9, v10, v11] ∧ Mch H2 m l n ∧ n ≤ 500 * i ∧ Tabs [(Pt, lamQ)] H2)
    ⟨_, _, _, _, _, _, _, _, _, _, l, 0, rfl, M1, Nat.le_refl _, tb1⟩ ?_ ?_
  · rintro i σ H2 hi ⟨v2, v3, v4, v5, v6, v7, v8, v9, v10, v11, l2, n, rfl, M2, hn, tb2⟩
    exact z6 _ H2 a m l2 n _ _ _ _ _ _ _ _ _ _ M2 (by omega) tb2 fun v3 v4 v5 v6 v7 v8 v9 v10 v11 l' H3 M3 t3 => ⟨_, v3, v4, v5, v6, v7, v8, v9, v10, v11, l', n + 500, rfl, M3, by omega, t3⟩
  · rintro σ H2 _
    exact rfl
end
end Ms
namespace Ms
open PySem PySem.Spec PyProof.Rows L2 LamX
/-! ### the end: what the top has written -/
set_option maxHeartbeats 16000000 in
theorem all_mk {P : Program} {w : World} {K : PySem.W.Frag} {h : Heap} {mg : Str → Option Value} {fa CS fES CT fET CW fEW C fR Kd pI pN pS pD pA pG fSt fSw fFw fMv fNr fNe fGr fAr fLt fNT fNW fBg fN fM fSe fO fB fBo fFt fLs fLn fLp fPk fDu fTo fL c Pt : Addr} (X : K.In h) (G : h.Ns mainGlobals mg) (hfa : mg "law" = some (.ref fa))
    {nmeS qeS : Str} {NeS : Addr} {bseS bmeS : List Value} {sneS : List Str} {subeS : List Value} {abeS : Bool} {coleS : Option Bool} {ddeS : Option Addr} {m0eS m1eS m2eS m3eS m5eS : Option Value}
    {odieS anieS : Option Addr} {slieS : Array (Option Value)} {ocieS kVieS dcieS pmieS cdieS ctieS : Value}
    {nmeT qeT : Str} {NeT : Addr} {bseT bmeT : List Value} {sneT : List Str} {subeT : List Value} {abeT : Bool} {coleT : Option Bool} {ddeT : Option Addr} {m0eT m1eT m2eT m3eT m5eT : Option Value}
    {odieT anieT : Option Addr} {slieT : Array (Option Value)} {ocieT kVieT dcieT pmieT cdieT ctieT : Value}
    {nmeW qeW : Str} {NeW : Addr} {bseW bmeW : List Value} {sneW : List Str} {subeW : List Value} {abeW : Bool} {coleW : Option Bool} {ddeW : Option Addr} {m0eW m1eW m2eW m3eW m5eW : Option Value}
    {odieW anieW : Option Addr} {slieW : Array (Option Value)} {ocieW kVieW dcieW pmieW cdieW ctieW : Value}
    {odR anR : Option Addr} {slR : Array (Option Value)} {ocR dcR pmR cdR ctR : Value}
    {odpI anpI : Option Addr} {slpI : Array (Option Value)} {ocpI kVpI dcpI pmpI cdpI ctpI : Value}
    {odpN anpN : Option Addr} {slpN : Array (Option Value)} {ocpN kVpN dcpN pmpN cdpN ctpN : Value}
    {odpS anpS : Option Addr} {slpS : Array (Option Value)} {ocpS kVpS dcpS pmpS cdpS ctpS : Value}
    {odpD anpD : Option Addr} {slpD : Array (Option Value)} {ocpD kVpD dcpD pmpD cdpD ctpD : Value}
    {odpA anpA : Option Addr} {slpA : Array (Option Value)} {ocpA kVpA dcpA pmpA cdpA ctpA : Value}
    {odpG anpG : Option Addr} {slpG : Array (Option Value)} {ocpG kVpG dcpG pmpG cdpG ctpG : Value}
    {odSt anSt : Option Addr} {slSt : Array (Option Value)} {ocSt kVSt dcSt pmSt cdSt ctSt : Value}
    {odSw anSw : Option Addr} {slSw : Array (Option Value)} {ocSw kVSw dcSw pmSw cdSw ctSw : Value}
    {odFw anFw : Option Addr} {slFw : Array (Option Value)} {ocFw kVFw dcFw pmFw cdFw ctFw : Value}
    {odMv anMv : Option Addr} {slMv : Array (Option Value)} {ocMv kVMv dcMv pmMv cdMv ctMv : Value}
    {odNr anNr : Option Addr} {slNr : Array (Option Value)} {ocNr kVNr dcNr pmNr cdNr ctNr : Value}
    {odNe anNe : Option Addr} {slNe : Array (Option Value)} {ocNe kVNe dcNe pmNe cdNe ctNe : Value}
    {odGr anGr : Option Addr} {slGr : Array (Option Value)} {ocGr kVGr dcGr pmGr cdGr ctGr : Value}
    {odAr anAr : Option Addr} {slAr : Array (Option Value)} {ocAr kVAr dcAr pmAr cdAr ctAr : Value}
    {odLt anLt : Option Addr} {slLt : Array (Option Value)} {ocLt kVLt dcLt pmLt cdLt ctLt : Value}
    {odNT anNT : Option Addr} {slNT : Array (Option Value)} {ocNT kVNT dcNT pmNT cdNT ctNT : Value}
    {odNW anNW : Option Addr} {slNW : Array (Option Value)} {ocNW kVNW dcNW pmNW cdNW ctNW : Value}
    {odBg anBg : Option Addr} {slBg : Array (Option Value)} {ocBg kVBg dcBg pmBg cdBg ctBg : Value}
    {odN anN : Option Addr} {slN : Array (Option Value)} {ocN kVN dcN pmN cdN ctN : Value}
    {odNa anNa : Option Addr} {slNa : Array (Option Value)} {ocNa kVNa dcNa pmNa cdNa ctNa : Value}
    {odSe anSe : Option Addr} {slSe : Array (Option Value)} {ocSe kVSe dcSe pmSe cdSe ctSe : Value}
    {odO anO : Option Addr} {slO : Array (Option Value)} {ocO kVO dcO pmO cdO ctO : Value}
    {odB anB : Option Addr} {slB : Array (Option Value)} {ocB kVB dcB pmB cdB ctB : Value}
    {odBo anBo : Option Addr} {slBo : Array (Option Value)} {ocBo kVBo dcBo pmBo cdBo ctBo : Value}
    {odFt anFt : Option Addr} {slFt : Array (Option Value)} {ocFt kVFt dcFt pmFt cdFt ctFt : Value}
    {odLs anLs : Option Addr} {slLs : Array (Option Value)} {ocLs kVLs dcLs pmLs cdLs ctLs : Value}
    {odLn anLn : Option Addr} {slLn : Array (Option Value)} {ocLn kVLn dcLn pmLn cdLn ctLn : Value}
    {odLp anLp : Option Addr} {slLp : Array (Option Value)} {ocLp kVLp dcLp pmLp cdLp ctLp : Value}
    {odPk anPk : Option Addr} {slPk : Array (Option Value)} {ocPk kVPk dcPk pmPk cdPk ctPk : Value}
    {odDu anDu : Option Addr} {slDu : Array (Option Value)} {ocDu kVDu dcDu pmDu cdDu ctDu : Value}
    {odTo anTo : Option Addr} {slTo : Array (Option Value)} {ocTo kVTo dcTo pmTo cdTo ctTo : Value}
    {odL anL : Option Addr} {slL : Array (Option Value)} {ocL kVL dcL pmL cdL ctL : Value}
    {tMOST_SETTINGS : Tok}
    {tMOST_VALUE : Tok}
    {tMOST_STANDINGS : Tok}
    {tLONGEST_NAME : Tok}
    (AeS : PySem.W.nsIn K mainGlobals "BadSettings" = some (some (.ref CS)))
    (XeS : K.lookup CS = some (excClassObj nmeS qeS CS NeS bseS bmeS true sneS subeS abeS coleS ddeS m0eS m1eS m2eS m3eS m5eS "ValueError.__new__"))
    (ReS : PySem.HandSPX.refsVE bmeS = true)
    (SeS : PySem.W.findIn K (.ref CS) "__setattr__" = some (some (.builtin "object.__setattr__")))
    (EeS : PySem.W.subIn K (.ref CS) (.type "BaseException") = some true)
    (TeS : PySem.W.typeIn K (.ref CS) = some (.type "type"))
    (KeS : PySem.W.keepIn K (.ref CS) = true)
    (IeS : PySem.W.findIn K (.ref CS) "__init__" = some (some (.ref fES)))
    (YeS : PySem.W.typeIn K (.ref fES) = some (.type "function"))
    (NeS : PySem.W.findIn K (.ref CS) "place" = some none)
    (GeS : PySem.W.findIn K (.ref CS) "__getattribute__" = some (some (.builtin "BaseException.__getattribute__")))
    (HeS : PySem.W.findIn K (.ref CS) "__getattr__" = some none)
    (DeS : PySem.W.hasDictIn K CS = true)
    (MeS : PySem.W.exmOne K (.ref CS) (.ref CS) = some true)
    (lieS : K.lookup fES = some ⟨ocieS, odieS, .func (PySem.W.fnOf "__init__" "BadSettings.__init__" (defArgs sIni) (defBody sIni) (defScope sIni) .none kVieS dcieS pmieS anieS cdieS ctieS), slieS⟩)
    (dieS : PySem.W.codeIn K cdieS "BadSettings.__init__" = true)
    (eieS : PySem.W.keepIn K (.ref fES) = true)
    (AeT : PySem.W.nsIn K mainGlobals "BadStarts" = some (some (.ref CT)))
    (XeT : K.lookup CT = some (excClassObj nmeT qeT CT NeT bseT bmeT true sneT subeT abeT coleT ddeT m0eT m1eT m2eT m3eT m5eT "ValueError.__new__"))
    (ReT : PySem.HandSPX.refsVE bmeT = true)
    (SeT : PySem.W.findIn K (.ref CT) "__setattr__" = some (some (.builtin "object.__setattr__")))
    (EeT : PySem.W.subIn K (.ref CT) (.type "BaseException") = some true)
    (TeT : PySem.W.typeIn K (.ref CT) = some (.type "type"))
    (KeT : PySem.W.keepIn K (.ref CT) = true)
    (IeT : PySem.W.findIn K (.ref CT) "__init__" = some (some (.ref fET)))
    (YeT : PySem.W.typeIn K (.ref fET) = some (.type "function"))
    (NeT : PySem.W.findIn K (.ref CT) "place" = some none)
    (GeT : PySem.W.findIn K (.ref CT) "__getattribute__" = some (some (.builtin "BaseException.__getattribute__")))
    (HeT : PySem.W.findIn K (.ref CT) "__getattr__" = some none)
    (DeT : PySem.W.hasDictIn K CT = true)
    (MeT : PySem.W.exmOne K (.ref CT) (.ref CT) = some true)
    (lieT : K.lookup fET = some ⟨ocieT, odieT, .func (PySem.W.fnOf "__init__" "BadStarts.__init__" (defArgs sIniSt) (defBody sIniSt) (defScope sIniSt) .none kVieT dcieT pmieT anieT cdieT ctieT), slieT⟩)
    (dieT : PySem.W.codeIn K cdieT "BadStarts.__init__" = true)
    (eieT : PySem.W.keepIn K (.ref fET) = true)
    (AeW : PySem.W.nsIn K mainGlobals "BadSwitches" = some (some (.ref CW)))
    (XeW : K.lookup CW = some (excClassObj nmeW qeW CW NeW bseW bmeW true sneW subeW abeW coleW ddeW m0eW m1eW m2eW m3eW m5eW "ValueError.__new__"))
    (ReW : PySem.HandSPX.refsVE bmeW = true)
    (SeW : PySem.W.findIn K (.ref CW) "__setattr__" = some (some (.builtin "object.__setattr__")))
    (EeW : PySem.W.subIn K (.ref CW) (.type "BaseException") = some true)
    (TeW : PySem.W.typeIn K (.ref CW) = some (.type "type"))
    (KeW : PySem.W.keepIn K (.ref CW) = true)
    (IeW : PySem.W.findIn K (.ref CW) "__init__" = some (some (.ref fEW)))
    (YeW : PySem.W.typeIn K (.ref fEW) = some (.type "function"))
    (NeW : PySem.W.findIn K (.ref CW) "place" = some none)
    (GeW : PySem.W.findIn K (.ref CW) "__getattribute__" = some (some (.builtin "BaseException.__getattribute__")))
    (HeW : PySem.W.findIn K (.ref CW) "__getattr__" = some none)
    (DeW : PySem.W.hasDictIn K CW = true)
    (MeW : PySem.W.exmOne K (.ref CW) (.ref CW) = some true)
    (lieW : K.lookup fEW = some ⟨ocieW, odieW, .func (PySem.W.fnOf "__init__" "BadSwitches.__init__" (defArgs sIniSw) (defBody sIniSw) (defScope sIniSw) .none kVieW dcieW pmieW anieW cdieW ctieW), slieW⟩)
    (dieW : PySem.W.codeIn K cdieW "BadSwitches.__init__" = true)
    (eieW : PySem.W.keepIn K (.ref fEW) = true)
    (XTS : PySem.W.exmOne K (.ref CT) (.ref CS) = some false)
    (XWS : PySem.W.exmOne K (.ref CW) (.ref CS) = some false)
    (XWT : PySem.W.exmOne K (.ref CW) (.ref CT) = some false)
    (AR : PySem.W.nsIn K mainGlobals "Book" = some (some (.ref C)))
    (IR : PySem.W.findIn K (.ref C) "__init__" = some (some (.ref fR)))
    (mkR : PySem.W.makesIn K C = true)
    (fnR : PySem.W.isFn K (.ref fR) = true)
    (kpR : PySem.W.keepIn K (.ref C) = true)
    (pgR : PySem.W.plainGet K C Str.empty = true)
    (hdR : PySem.W.hasDictIn K C = true)
    (poR : PySem.W.plainOver K C = true)
    (saR : PySem.W.findIn K (.ref C) "__setattr__" = some (some (.builtin "object.__setattr__")))
    (n0R : PySem.W.findIn K (.ref C) "settings" = some none)
    (n1R : PySem.W.findIn K (.ref C) "grid" = some none)
    (n2R : PySem.W.findIn K (.ref C) "starts" = some none)
    (n3R : PySem.W.findIn K (.ref C) "switches" = some none)
    (n4R : PySem.W.findIn K (.ref C) "groups" = some none)
    (lR : K.lookup fR = some ⟨ocR, odR, .func (PySem.W.fnOf "__init__" "Book.__init__" (defArgs sBookIni) (defBody sBookIni) (defScope sBookIni) .none (.ref Kd) dcR pmR anR cdR ctR), slR⟩)
    (dR : PySem.W.codeIn K cdR "Book.__init__" = true)
    (eR : PySem.W.keepIn K (.ref fR) = true)
    (k0R : PySem.W.nsIn K Kd "starts" = some (some .none))
    (k1R : PySem.W.nsIn K Kd "switches" = some (some .none))
    (apI : PySem.W.nsIn K mainGlobals "is_int" = some (some (.ref pI)))
    (lpI : K.lookup pI = some ⟨ocpI, odpI, .func (PySem.W.fnOf "is_int" "is_int" (defArgs sPInt) (defBody sPInt) (defScope sPInt) .none kVpI dcpI pmpI anpI cdpI ctpI), slpI⟩)
    (dpI : PySem.W.codeIn K cdpI "is_int" = true)
    (epI : PySem.W.keepIn K (.ref pI) = true)
    (apN : PySem.W.nsIn K mainGlobals "is_name" = some (some (.ref pN)))
    (lpN : K.lookup pN = some ⟨ocpN, odpN, .func (PySem.W.fnOf "is_name" "is_name" (defArgs sPName) (defBody sPName) (defScope sPName) .none kVpN dcpN pmpN anpN cdpN ctpN), slpN⟩)
    (dpN : PySem.W.codeIn K cdpN "is_name" = true)
    (epN : PySem.W.keepIn K (.ref pN) = true)
    (apS : PySem.W.nsIn K mainGlobals "is_setting" = some (some (.ref pS)))
    (lpS : K.lookup pS = some ⟨ocpS, odpS, .func (PySem.W.fnOf "is_setting" "is_setting" (defArgs sPSet) (defBody sPSet) (defScope sPSet) .none kVpS dcpS pmpS anpS cdpS ctpS), slpS⟩)
    (dpS : PySem.W.codeIn K cdpS "is_setting" = true)
    (epS : PySem.W.keepIn K (.ref pS) = true)
    (apD : PySem.W.nsIn K mainGlobals "need_settings" = some (some (.ref pD)))
    (lpD : K.lookup pD = some ⟨ocpD, odpD, .func (PySem.W.fnOf "need_settings" "need_settings" (defArgs sNeed) (defBody sNeed) (defScope sNeed) .none kVpD dcpD pmpD anpD cdpD ctpD), slpD⟩)
    (dpD : PySem.W.codeIn K cdpD "need_settings" = true)
    (epD : PySem.W.keepIn K (.ref pD) = true)
    (apA : PySem.W.nsIn K mainGlobals "names_of" = some (some (.ref pA)))
    (lpA : K.lookup pA = some ⟨ocpA, odpA, .func (PySem.W.fnOf "names_of" "names_of" (defArgs sPNames) (defBody sPNames) (defScope sPNames) .none kVpA dcpA pmpA anpA cdpA ctpA), slpA⟩)
    (dpA : PySem.W.codeIn K cdpA "names_of" = true)
    (epA : PySem.W.keepIn K (.ref pA) = true)
    (apG : PySem.W.nsIn K mainGlobals "grid_of" = some (some (.ref pG)))
    (lpG : K.lookup pG = some ⟨ocpG, odpG, .func (PySem.W.fnOf "grid_of" "grid_of" (defArgs sPGrid) (defBody sPGrid) (defScope sPGrid) .none kVpG dcpG pmpG anpG cdpG ctpG), slpG⟩)
    (dpG : PySem.W.codeIn K cdpG "grid_of" = true)
    (epG : PySem.W.keepIn K (.ref pG) = true)
    (aSt : PySem.W.nsIn K mainGlobals "is_standing" = some (some (.ref fSt)))
    (lSt : K.lookup fSt = some ⟨ocSt, odSt, .func (PySem.W.fnOf "is_standing" "is_standing" (defArgs sPStand) (defBody sPStand) (defScope sPStand) .none kVSt dcSt pmSt anSt cdSt ctSt), slSt⟩)
    (dSt : PySem.W.codeIn K cdSt "is_standing" = true)
    (eSt : PySem.W.keepIn K (.ref fSt) = true)
    (aSw : PySem.W.nsIn K mainGlobals "is_switch" = some (some (.ref fSw)))
    (lSw : K.lookup fSw = some ⟨ocSw, odSw, .func (PySem.W.fnOf "is_switch" "is_switch" (defArgs sPSwitch) (defBody sPSwitch) (defScope sPSwitch) .none kVSw dcSw pmSw anSw cdSw ctSw), slSw⟩)
    (dSw : PySem.W.codeIn K cdSw "is_switch" = true)
    (eSw : PySem.W.keepIn K (.ref fSw) = true)
    (aFw : PySem.W.nsIn K mainGlobals "first_wrong" = some (some (.ref fFw)))
    (lFw : K.lookup fFw = some ⟨ocFw, odFw, .func (PySem.W.fnOf "first_wrong" "first_wrong" (defArgs sFirstW) (defBody sFirstW) (defScope sFirstW) .none kVFw dcFw pmFw anFw cdFw ctFw), slFw⟩)
    (dFw : PySem.W.codeIn K cdFw "first_wrong" = true)
    (eFw : PySem.W.keepIn K (.ref fFw) = true)
    (aMv : PySem.W.nsIn K mainGlobals "moved" = some (some (.ref fMv)))
    (lMv : K.lookup fMv = some ⟨ocMv, odMv, .func (PySem.W.fnOf "moved" "moved" (defArgs sMoved) (defBody sMoved) (defScope sMoved) .none kVMv dcMv pmMv anMv cdMv ctMv), slMv⟩)
    (dMv : PySem.W.codeIn K cdMv "moved" = true)
    (eMv : PySem.W.keepIn K (.ref fMv) = true)
    (aNr : PySem.W.nsIn K mainGlobals "near_to" = some (some (.ref fNr)))
    (lNr : K.lookup fNr = some ⟨ocNr, odNr, .func (PySem.W.fnOf "near_to" "near_to" (defArgs sNearTo) (defBody sNearTo) (defScope sNearTo) .none kVNr dcNr pmNr anNr cdNr ctNr), slNr⟩)
    (dNr : PySem.W.codeIn K cdNr "near_to" = true)
    (eNr : PySem.W.keepIn K (.ref fNr) = true)
    (aNe : PySem.W.nsIn K mainGlobals "near_pairs" = some (some (.ref fNe)))
    (lNe : K.lookup fNe = some ⟨ocNe, odNe, .func (PySem.W.fnOf "near_pairs" "near_pairs" (defArgs sNear) (defBody sNear) (defScope sNear) .none kVNe dcNe pmNe anNe cdNe ctNe), slNe⟩)
    (dNe : PySem.W.codeIn K cdNe "near_pairs" = true)
    (eNe : PySem.W.keepIn K (.ref fNe) = true)
    (aGr : PySem.W.nsIn K mainGlobals "groups_of" = some (some (.ref fGr)))
    (lGr : K.lookup fGr = some ⟨ocGr, odGr, .func (PySem.W.fnOf "groups_of" "groups_of" (defArgs sGroups) (defBody sGroups) (defScope sGroups) .none kVGr dcGr pmGr anGr cdGr ctGr), slGr⟩)
    (dGr : PySem.W.codeIn K cdGr "groups_of" = true)
    (eGr : PySem.W.keepIn K (.ref fGr) = true)
    (aAr : PySem.W.nsIn K mainGlobals "all_reached" = some (some (.ref fAr)))
    (lAr : K.lookup fAr = some ⟨ocAr, odAr, .func (PySem.W.fnOf "all_reached" "all_reached" (defArgs sReached) (defBody sReached) (defScope sReached) .none kVAr dcAr pmAr anAr cdAr ctAr), slAr⟩)
    (dAr : PySem.W.codeIn K cdAr "all_reached" = true)
    (eAr : PySem.W.keepIn K (.ref fAr) = true)
    (aLt : PySem.W.nsIn K mainGlobals "later_groups" = some (some (.ref fLt)))
    (lLt : K.lookup fLt = some ⟨ocLt, odLt, .func (PySem.W.fnOf "later_groups" "later_groups" (defArgs sLater) (defBody sLater) (defScope sLater) .none kVLt dcLt pmLt anLt cdLt ctLt), slLt⟩)
    (dLt : PySem.W.codeIn K cdLt "later_groups" = true)
    (eLt : PySem.W.keepIn K (.ref fLt) = true)
    (aNT : PySem.W.nsIn K mainGlobals "need_starts" = some (some (.ref fNT)))
    (lNT : K.lookup fNT = some ⟨ocNT, odNT, .func (PySem.W.fnOf "need_starts" "need_starts" (defArgs sNStarts) (defBody sNStarts) (defScope sNStarts) .none kVNT dcNT pmNT anNT cdNT ctNT), slNT⟩)
    (dNT : PySem.W.codeIn K cdNT "need_starts" = true)
    (eNT : PySem.W.keepIn K (.ref fNT) = true)
    (aNW : PySem.W.nsIn K mainGlobals "need_switches" = some (some (.ref fNW)))
    (lNW : K.lookup fNW = some ⟨ocNW, odNW, .func (PySem.W.fnOf "need_switches" "need_switches" (defArgs sNSwitches) (defBody sNSwitches) (defScope sNSwitches) .none kVNW dcNW pmNW anNW cdNW ctNW), slNW⟩)
    (dNW : PySem.W.codeIn K cdNW "need_switches" = true)
    (eNW : PySem.W.keepIn K (.ref fNW) = true)
    (aBg : PySem.W.nsIn K mainGlobals "_law_begun" = some (some (.ref fBg)))
    (lBg : K.lookup fBg = some ⟨ocBg, odBg, .func (PySem.W.fnOf "_law_begun" "_law_begun" (defArgs sBegun) (defBody sBegun) (defScope sBegun) .none kVBg dcBg pmBg anBg cdBg ctBg), slBg⟩)
    (dBg : PySem.W.codeIn K cdBg "_law_begun" = true)
    (eBg : PySem.W.keepIn K (.ref fBg) = true)
    (aN : PySem.W.nsIn K mainGlobals "_law_next" = some (some (.ref fN)))
    (lN : K.lookup fN = some ⟨ocN, odN, .func (PySem.W.fnOf "_law_next" "_law_next" (defArgs sNext) (defBody sNext) (defScope sNext) .none kVN dcN pmN anN cdN ctN), slN⟩)
    (dN : PySem.W.codeIn K cdN "_law_next" = true)
    (eN : PySem.W.keepIn K (.ref fN) = true)
    (aNa : PySem.W.nsIn K mainGlobals "_law_names" = some (some (.ref fM)))
    (lNa : K.lookup fM = some ⟨ocNa, odNa, .func (PySem.W.fnOf "_law_names" "_law_names" (defArgs sNames) (defBody sNames) (defScope sNames) .none kVNa dcNa pmNa anNa cdNa ctNa), slNa⟩)
    (dNa : PySem.W.codeIn K cdNa "_law_names" = true)
    (eNa : PySem.W.keepIn K (.ref fM) = true)
    (aSe : PySem.W.nsIn K mainGlobals "_law_settings" = some (some (.ref fSe)))
    (lSe : K.lookup fSe = some ⟨ocSe, odSe, .func (PySem.W.fnOf "_law_settings" "_law_settings" (defArgs sSettings) (defBody sSettings) (defScope sSettings) .none kVSe dcSe pmSe anSe cdSe ctSe), slSe⟩)
    (dSe : PySem.W.codeIn K cdSe "_law_settings" = true)
    (eSe : PySem.W.keepIn K (.ref fSe) = true)
    (aO : PySem.W.nsIn K mainGlobals "_law_odd" = some (some (.ref fO)))
    (lO : K.lookup fO = some ⟨ocO, odO, .func (PySem.W.fnOf "_law_odd" "_law_odd" (defArgs sOdd) (defBody sOdd) (defScope sOdd) .none kVO dcO pmO anO cdO ctO), slO⟩)
    (dO : PySem.W.codeIn K cdO "_law_odd" = true)
    (eO : PySem.W.keepIn K (.ref fO) = true)
    (aB : PySem.W.nsIn K mainGlobals "_law_bent" = some (some (.ref fB)))
    (lB : K.lookup fB = some ⟨ocB, odB, .func (PySem.W.fnOf "_law_bent" "_law_bent" (defArgs sBent) (defBody sBent) (defScope sBent) .none kVB dcB pmB anB cdB ctB), slB⟩)
    (dB : PySem.W.codeIn K cdB "_law_bent" = true)
    (eB : PySem.W.keepIn K (.ref fB) = true)
    (aBo : PySem.W.nsIn K mainGlobals "_law_book" = some (some (.ref fBo)))
    (lBo : K.lookup fBo = some ⟨ocBo, odBo, .func (PySem.W.fnOf "_law_book" "_law_book" (defArgs sLBook) (defBody sLBook) (defScope sLBook) .none kVBo dcBo pmBo anBo cdBo ctBo), slBo⟩)
    (dBo : PySem.W.codeIn K cdBo "_law_book" = true)
    (eBo : PySem.W.keepIn K (.ref fBo) = true)
    (aFt : PySem.W.nsIn K mainGlobals "_law_fault" = some (some (.ref fFt)))
    (lFt : K.lookup fFt = some ⟨ocFt, odFt, .func (PySem.W.fnOf "_law_fault" "_law_fault" (defArgs sFault) (defBody sFault) (defScope sFault) .none kVFt dcFt pmFt anFt cdFt ctFt), slFt⟩)
    (dFt : PySem.W.codeIn K cdFt "_law_fault" = true)
    (eFt : PySem.W.keepIn K (.ref fFt) = true)
    (aLs : PySem.W.nsIn K mainGlobals "_law_standings" = some (some (.ref fLs)))
    (lLs : K.lookup fLs = some ⟨ocLs, odLs, .func (PySem.W.fnOf "_law_standings" "_law_standings" (defArgs sStandings) (defBody sStandings) (defScope sStandings) .none kVLs dcLs pmLs anLs cdLs ctLs), slLs⟩)
    (dLs : PySem.W.codeIn K cdLs "_law_standings" = true)
    (eLs : PySem.W.keepIn K (.ref fLs) = true)
    (aLn : PySem.W.nsIn K mainGlobals "_law_near" = some (some (.ref fLn)))
    (lLn : K.lookup fLn = some ⟨ocLn, odLn, .func (PySem.W.fnOf "_law_near" "_law_near" (defArgs sLNear) (defBody sLNear) (defScope sLNear) .none kVLn dcLn pmLn anLn cdLn ctLn), slLn⟩)
    (dLn : PySem.W.codeIn K cdLn "_law_near" = true)
    (eLn : PySem.W.keepIn K (.ref fLn) = true)
    (aLp : PySem.W.nsIn K mainGlobals "_law_pairs" = some (some (.ref fLp)))
    (lLp : K.lookup fLp = some ⟨ocLp, odLp, .func (PySem.W.fnOf "_law_pairs" "_law_pairs" (defArgs sLPairs) (defBody sLPairs) (defScope sLPairs) .none kVLp dcLp pmLp anLp cdLp ctLp), slLp⟩)
    (dLp : PySem.W.codeIn K cdLp "_law_pairs" = true)
    (eLp : PySem.W.keepIn K (.ref fLp) = true)
    (aPk : PySem.W.nsIn K mainGlobals "_law_picked" = some (some (.ref fPk)))
    (lPk : K.lookup fPk = some ⟨ocPk, odPk, .func (PySem.W.fnOf "_law_picked" "_law_picked" (defArgs sPicked) (defBody sPicked) (defScope sPicked) .none kVPk dcPk pmPk anPk cdPk ctPk), slPk⟩)
    (dPk : PySem.W.codeIn K cdPk "_law_picked" = true)
    (ePk : PySem.W.keepIn K (.ref fPk) = true)
    (aDu : PySem.W.nsIn K mainGlobals "_law_due" = some (some (.ref fDu)))
    (lDu : K.lookup fDu = some ⟨ocDu, odDu, .func (PySem.W.fnOf "_law_due" "_law_due" (defArgs sDue) (defBody sDue) (defScope sDue) .none kVDu dcDu pmDu anDu cdDu ctDu), slDu⟩)
    (dDu : PySem.W.codeIn K cdDu "_law_due" = true)
    (eDu : PySem.W.keepIn K (.ref fDu) = true)
    (aTo : PySem.W.nsIn K mainGlobals "_law_told" = some (some (.ref fTo)))
    (lTo : K.lookup fTo = some ⟨ocTo, odTo, .func (PySem.W.fnOf "_law_told" "_law_told" (defArgs sTold) (defBody sTold) (defScope sTold) .none kVTo dcTo pmTo anTo cdTo ctTo), slTo⟩)
    (dTo : PySem.W.codeIn K cdTo "_law_told" = true)
    (eTo : PySem.W.keepIn K (.ref fTo) = true)
    (aL : PySem.W.nsIn K mainGlobals "law" = some (some (.ref fL)))
    (lL : K.lookup fL = some ⟨ocL, odL, .func (PySem.W.fnOf "law" "law" (defArgs sLaw) (defBody sLaw) (defScope sLaw) .none kVL dcL pmL anL cdL ctL), slL⟩)
    (dL : PySem.W.codeIn K cdL "law" = true)
    (eL : PySem.W.keepIn K (.ref fL) = true)
    (cMOST_SETTINGS : PySem.W.nsIn K mainGlobals "MOST_SETTINGS" = some (some (.int 3 tMOST_SETTINGS)))
    (cMOST_VALUE : PySem.W.nsIn K mainGlobals "MOST_VALUE" = some (some (.int 3 tMOST_VALUE)))
    (cMOST_STANDINGS : PySem.W.nsIn K mainGlobals "MOST_STANDINGS" = some (some (.int 12 tMOST_STANDINGS)))
    (cLONGEST_NAME : PySem.W.nsIn K mainGlobals "LONGEST_NAME" = some (some (.int 8 tLONGEST_NAME)))
    (z_list : PySem.W.nsIn K mainGlobals "list" = some none)
    (z_len : PySem.W.nsIn K mainGlobals "len" = some none)
    (z_int : PySem.W.nsIn K mainGlobals "int" = some none)
    (z_range : PySem.W.nsIn K mainGlobals "range" = some none)
    (z_tuple : PySem.W.nsIn K mainGlobals "tuple" = some none)
    (z_zip : PySem.W.nsIn K mainGlobals "zip" = some none)
    (z_isinstance : PySem.W.nsIn K mainGlobals "isinstance" = some none)
    (z_str : PySem.W.nsIn K mainGlobals "str" = some none)
    (z_bool : PySem.W.nsIn K mainGlobals "bool" = some none)
    (z_enumerate : PySem.W.nsIn K mainGlobals "enumerate" = some none)
    (z_all : PySem.W.nsIn K mainGlobals "all" = some none)
    (z_repr : PySem.W.nsIn K mainGlobals "repr" = some none)
    (z_min : PySem.W.nsIn K mainGlobals "min" = some none)
    (z_sum : PySem.W.nsIn K mainGlobals "sum" = some none)
    (z_abs : PySem.W.nsIn K mainGlobals "abs" = some none)
    (z_sorted : PySem.W.nsIn K mainGlobals "sorted" = some none)
    (z_set : PySem.W.nsIn K mainGlobals "set" = some none)
    (hc : cdL = .ref c) : LawRunT P w K mg fa c Pt := by
  have e := hfa.symm.trans (PySem.W.mg_of X G aL)
  cases e
  have FieS := fun_mk (st := sIni) lieS dieS eieS
  have bieS := FieS.binds (ps := ["self", "place"]) fun _ _ _ _ _ _ us hl => match us, hl with | [_, _], _ => rfl
  have OXeS : OexC K CS := ⟨⟨_, _, _, _, _, _, _, _, _, _, _, _, _, _, _, XeS, ReS⟩, SeS, EeS, TeS, KeS⟩
  have ECeS : ErrC K CS fES := ⟨OXeS, IeS, YeS, NeS⟩
  have XFeS : XfC K CS := ⟨GeS, HeS, EeS, DeS⟩
  have FieT := fun_mk (st := sIniSt) lieT dieT eieT
  have bieT := FieT.binds (ps := ["self", "place"]) fun _ _ _ _ _ _ us hl => match us, hl with | [_, _], _ => rfl
  have OXeT : OexC K CT := ⟨⟨_, _, _, _, _, _, _, _, _, _, _, _, _, _, _, XeT, ReT⟩, SeT, EeT, TeT, KeT⟩
  have ECeT : ErrC K CT fET := ⟨OXeT, IeT, YeT, NeT⟩
  have XFeT : XfC K CT := ⟨GeT, HeT, EeT, DeT⟩
  have FieW := fun_mk (st := sIniSw) lieW dieW eieW
  have bieW := FieW.binds (ps := ["self", "place"]) fun _ _ _ _ _ _ us hl => match us, hl with | [_, _], _ => rfl
  have OXeW : OexC K CW := ⟨⟨_, _, _, _, _, _, _, _, _, _, _, _, _, _, _, XeW, ReW⟩, SeW, EeW, TeW, KeW⟩
  have ECeW : ErrC K CW fEW := ⟨OXeW, IeW, YeW, NeW⟩
  have XFeW : XfC K CW := ⟨GeW, HeW, EeW, DeW⟩
  have FR : FunD K "__init__" "Book.__init__" (defArgs sBookIni) (defBody sBookIni) (defScope sBookIni) [] kwBk fR _ := ⟨⟨ocR, odR, _, _, dcR, pmR, anR, cdR, ctR, slR, rfl, lR, dR, .inl ⟨rfl, rfl⟩, .inr ⟨Kd, rfl, fun q hq => by
    rcases List.mem_cons.mp hq with rfl | hq
    · exact ⟨_, k0R, rfl⟩
    · rw [List.mem_singleton.mp hq]
      exact ⟨_, k1R, rfl⟩⟩⟩, eR⟩
  have RC : BookC K C := ⟨⟨pgR, hdR, poR, saR⟩, n0R, n1R, n2R, n3R, n4R⟩
  have FpI := fun_mk (st := sPInt) lpI dpI epI
  have bpI := FpI.binds (ps := ["thing"]) fun _ _ _ _ _ _ us hl => match us, hl with | [_], _ => rfl
  have FpN := fun_mk (st := sPName) lpN dpN epN
  have bpN := FpN.binds (ps := ["thing"]) fun _ _ _ _ _ _ us hl => match us, hl with | [_], _ => rfl
  have FpS := fun_mk (st := sPSet) lpS dpS epS
  have bpS := FpS.binds (ps := ["thing"]) fun _ _ _ _ _ _ us hl => match us, hl with | [_], _ => rfl
  have FpD := fun_mk (st := sNeed) lpD dpD epD
  have bpD := FpD.binds (ps := ["thing"]) fun _ _ _ _ _ _ us hl => match us, hl with | [_], _ => rfl
  have FpA := fun_mk (st := sPNames) lpA dpA epA
  have bpA := FpA.binds (ps := ["settings"]) fun _ _ _ _ _ _ us hl => match us, hl with | [_], _ => rfl
  have FpG := fun_mk (st := sPGrid) lpG dpG epG
  have bpG := FpG.binds (ps := ["settings"]) fun _ _ _ _ _ _ us hl => match us, hl with | [_], _ => rfl
  have FSt := fun_mk (st := sPStand) lSt dSt eSt
  have bSt := FSt.binds (ps := ["settings", "thing"]) fun _ _ _ _ _ _ us hl => match us, hl with | [_, _], _ => rfl
  have FSw := fun_mk (st := sPSwitch) lSw dSw eSw
  have bSw := FSw.binds (ps := ["settings", "thing"]) fun _ _ _ _ _ _ us hl => match us, hl with | [_, _], _ => rfl
  have FFw := fun_mk (st := sFirstW) lFw dFw eFw
  have bFw := FFw.binds (ps := ["things", "good"]) fun _ _ _ _ _ _ us hl => match us, hl with | [_, _], _ => rfl
  have FMv := fun_mk (st := sMoved) lMv dMv eMv
  have bMv := FMv.binds (ps := ["standing", "at", "way"]) fun _ _ _ _ _ _ us hl => match us, hl with | [_, _, _], _ => rfl
  have FNr := fun_mk (st := sNearTo) lNr dNr eNr
  have bNr := FNr.binds (ps := ["settings", "standing"]) fun _ _ _ _ _ _ us hl => match us, hl with | [_, _], _ => rfl
  have FNe := fun_mk (st := sNear) lNe dNe eNe
  have bNe := FNe.binds (ps := ["settings", "grid"]) fun _ _ _ _ _ _ us hl => match us, hl with | [_, _], _ => rfl
  have FGr := fun_mk (st := sGroups) lGr dGr eGr
  have bGr := FGr.binds (ps := ["grid", "switches"]) fun _ _ _ _ _ _ us hl => match us, hl with | [_, _], _ => rfl
  have FAr := fun_mk (st := sReached) lAr dAr eAr
  have bAr := FAr.binds (ps := ["grid", "switches"]) fun _ _ _ _ _ _ us hl => match us, hl with | [_, _], _ => rfl
  have FLt := fun_mk (st := sLater) lLt dLt eLt
  have bLt := FLt.binds (ps := ["many", "numbers", "switches"]) fun _ _ _ _ _ _ us hl => match us, hl with | [_, _, _], _ => rfl
  have FNT := fun_mk (st := sNStarts) lNT dNT eNT
  have bNT := FNT.binds (ps := ["settings", "starts"]) fun _ _ _ _ _ _ us hl => match us, hl with | [_, _], _ => rfl
  have FNW := fun_mk (st := sNSwitches) lNW dNW eNW
  have bNW := FNW.binds (ps := ["settings", "switches"]) fun _ _ _ _ _ _ us hl => match us, hl with | [_, _], _ => rfl
  have FBg := fun_mk (st := sBegun) lBg dBg eBg
  have bBg := FBg.binds (ps := ["script"]) fun _ _ _ _ _ _ us hl => match us, hl with | [_], _ => rfl
  have FN := fun_mk (st := sNext) lN dN eN
  have bN := FN.binds (ps := ["m", "many"]) fun _ _ _ _ _ _ us hl => match us, hl with | [_, _], _ => rfl
  have FNa := fun_mk (st := sNames) lNa dNa eNa
  have bNa := FNa.binds (ps := ["m", "many"]) fun _ _ _ _ _ _ us hl => match us, hl with | [_, _], _ => rfl
  have FSe := fun_mk (st := sSettings) lSe dSe eSe
  have bSe := FSe.binds (ps := ["m"]) fun _ _ _ _ _ _ us hl => match us, hl with | [_], _ => rfl
  have FO := fun_mk (st := sOdd) lO dO eO
  have bO := FO.binds (ps := ["m"]) fun _ _ _ _ _ _ us hl => match us, hl with | [_], _ => rfl
  have FB := fun_mk (st := sBent) lB dB eB
  have bB := FB.binds (ps := ["m", "thing"]) fun _ _ _ _ _ _ us hl => match us, hl with | [_, _], _ => rfl
  have FBo := fun_mk (st := sLBook) lBo dBo eBo
  have bBo := FBo.binds (ps := ["m", "spots"]) fun _ _ _ _ _ _ us hl => match us, hl with | [_, _], _ => rfl
  have FFt := fun_mk (st := sFault) lFt dFt eFt
  have bFt := FFt.binds (ps := ["some", "thing"]) fun _ _ _ _ _ _ us hl => match us, hl with | [_, _], _ => rfl
  have FLs := fun_mk (st := sStandings) lLs dLs eLs
  have bLs := FLs.binds (ps := ["spots"]) fun _ _ _ _ _ _ us hl => match us, hl with | [_], _ => rfl
  have FLn := fun_mk (st := sLNear) lLn dLn eLn
  have bLn := FLn.binds (ps := ["spots"]) fun _ _ _ _ _ _ us hl => match us, hl with | [_], _ => rfl
  have FLp := fun_mk (st := sLPairs) lLp dLp eLp
  have bLp := FLp.binds (ps := ["spots"]) fun _ _ _ _ _ _ us hl => match us, hl with | [_], _ => rfl
  have FPk := fun_mk (st := sPicked) lPk dPk ePk
  have bPk := FPk.binds (ps := ["m", "some", "part"]) fun _ _ _ _ _ _ us hl => match us, hl with | [_, _, _], _ => rfl
  have FDu := fun_mk (st := sDue) lDu dDu eDu
  have bDu := FDu.binds (ps := ["spots", "begin", "pairs"]) fun _ _ _ _ _ _ us hl => match us, hl with | [_, _, _], _ => rfl
  have FTo := fun_mk (st := sTold) lTo dTo eTo
  have bTo := FTo.binds (ps := ["call"]) fun _ _ _ _ _ _ us hl => match us, hl with | [_], _ => rfl
  have FL := fun_mk (st := sLaw) lL dL eL
  have T0 : TxtB mg fN fM fO fB := ⟨⟨⟨⟨PySem.W.mg_none_of X G z_list, PySem.W.mg_none_of X G z_len, PySem.W.mg_none_of X G z_int⟩, PySem.W.mg_of X G aN, PySem.W.mg_none_of X G z_range, PySem.W.mg_none_of X G z_tuple, PySem.W.mg_none_of X G z_zip⟩, PySem.W.mg_of X G aNa⟩, PySem.W.mg_of X G aO, PySem.W.mg_of X G aB, PySem.W.mg_none_of X G z_isinstance, PySem.W.mg_none_of X G z_str, PySem.W.mg_none_of X G z_bool⟩
  have TB : TxtLb mg := ⟨PySem.W.mg_none_of X G z_zip, PySem.W.mg_none_of X G z_sum, PySem.W.mg_none_of X G z_abs, PySem.W.mg_none_of X G z_sorted, PySem.W.mg_none_of X G z_set, PySem.W.mg_none_of X G z_range, PySem.W.mg_none_of X G z_len⟩
  have TF : TxtF mg := ⟨PySem.W.mg_none_of X G z_isinstance, PySem.W.mg_none_of X G z_tuple, PySem.W.mg_none_of X G z_repr, PySem.W.mg_none_of X G z_enumerate⟩
  have TG : TxtG mg := ⟨PySem.W.mg_none_of X G z_enumerate, PySem.W.mg_none_of X G z_sum, PySem.W.mg_none_of X G z_range, PySem.W.mg_none_of X G z_len, PySem.W.mg_none_of X G z_list, PySem.W.mg_none_of X G z_zip, PySem.W.mg_none_of X G z_sorted, PySem.W.mg_none_of X G z_set⟩
  have TP : TxtP mg pI pN pS pA pG := ⟨PySem.W.mg_none_of X G z_isinstance, PySem.W.mg_none_of X G z_int, PySem.W.mg_none_of X G z_bool, PySem.W.mg_none_of X G z_str, PySem.W.mg_none_of X G z_tuple, PySem.W.mg_none_of X G z_len, PySem.W.mg_none_of X G z_all, PySem.W.mg_none_of X G z_range, PySem.W.mg_none_of X G z_enumerate, ⟨_, PySem.W.mg_of X G cMOST_SETTINGS⟩, ⟨_, PySem.W.mg_of X G cMOST_VALUE⟩, ⟨_, PySem.W.mg_of X G cMOST_STANDINGS⟩, ⟨_, PySem.W.mg_of X G cLONGEST_NAME⟩, PySem.W.mg_of X G apI, PySem.W.mg_of X G apN, PySem.W.mg_of X G apS, PySem.W.mg_of X G apA, PySem.W.mg_of X G apG⟩
  have TL : TLb mg fBg fSe fBo fDu fTo C CS CT CW := ⟨PySem.W.mg_of X G aBg, PySem.W.mg_of X G aSe, PySem.W.mg_of X G aBo, PySem.W.mg_of X G aDu, PySem.W.mg_of X G aTo, PySem.W.mg_of X G AR, PySem.W.mg_of X G AeS, PySem.W.mg_of X G AeT, PySem.W.mg_of X G AeW, PySem.W.mg_none_of X G z_repr, PySem.W.mg_none_of X G z_min⟩
  have cl : Cl4 K C CS CT CW fR := ⟨⟨mkR, IR, fnR, kpR⟩, RC, MeS, XTS, MeT, XWS, XWT, MeW, ⟨XFeS, NeS⟩, ⟨XFeT, NeT⟩, ⟨XFeW, NeW⟩⟩
  exact ok_law T0 TB TF TG TP TL cl (PySem.W.mg_of X G aFt) (PySem.W.mg_of X G aLs) (PySem.W.mg_of X G aLn) (PySem.W.mg_of X G aLp) (PySem.W.mg_of X G aPk) (PySem.W.mg_of X G apD) (PySem.W.mg_of X G aSt) (PySem.W.mg_of X G aSw) (PySem.W.mg_of X G aFw) (PySem.W.mg_of X G aMv) (PySem.W.mg_of X G aNr) (PySem.W.mg_of X G aGr) (PySem.W.mg_of X G aAr) (PySem.W.mg_of X G aLt) (PySem.W.mg_of X G aNT) (PySem.W.mg_of X G aNW) (PySem.W.mg_of X G aNe) FL hc (fun s v => .of_eq rfl) FBg bBg FN bN FNa bNa FSe bSe FO bO FB bB FBo bBo FFt bFt FLs bLs FLn bLn FLp bLp FPk bPk FDu bDu FTo bTo FR ECeS ECeT ECeW FieS bieS FieT bieT FieW bieW FpI bpI FpN bpN FpS bpS FpA bpA FpG bpG FpD bpD FSt bSt FSw bSw FFw bFw FMv bMv FNr bNr FNe bNe FGr bGr FAr bAr FLt bLt FNT bNT FNW bNW
end Ms
open PySem PySem.W PyProof.Rows
set_option maxRecDepth 100000 in
set_option maxHeartbeats 0 in
theorem PySem.Challenge.cw_midswitch_k03_whole_books_made_holds : PySem.Challenge.rw_midswitch_k03_whole_books_made.Holds := by
  w_on; o_law; k_head; (case hw => w_witness2)
  k_fill
  refine' Ms.walk_tabled (l := PySem.Challenge.rw_midswitch_k03_whole_books_made) rfl rfl (fun w h Y => PySem.W.km_in_of Y) (fun w h Y => PySem.W.km_tabs_of Y _ (List.mem_singleton.mpr rfl)) ?tabHd ?tabNo ?R
  case R =>
    intro w mg fa h KX G hmg
    refine' Ms.all_mk KX G hmg ?AeS ?XeS ?ReS ?SeS ?EeS ?TeS ?KeS ?IeS ?YeS ?NeS ?GeS ?HeS ?DeS ?MeS ?lieS ?dieS ?eieS ?AeT ?XeT ?ReT ?SeT ?EeT ?TeT ?KeT ?IeT ?YeT ?NeT ?GeT ?HeT ?DeT ?MeT ?lieT ?dieT ?eieT ?AeW ?XeW ?ReW ?SeW ?EeW ?TeW ?KeW ?IeW ?YeW ?NeW ?GeW ?HeW ?DeW ?MeW ?lieW ?dieW ?eieW ?XTS ?XWS ?XWT ?AR ?IR ?mkR ?fnR ?kpR ?pgR ?hdR ?poR ?saR ?n0R ?n1R ?n2R ?n3R ?n4R ?lR ?dR ?eR ?k0R ?k1R ?apI ?lpI ?dpI ?epI ?apN ?lpN ?dpN ?epN ?apS ?lpS ?dpS ?epS ?apD ?lpD ?dpD ?epD ?apA ?lpA ?dpA ?epA ?apG ?lpG ?dpG ?epG ?aSt ?lSt ?dSt ?eSt ?aSw ?lSw ?dSw ?eSw ?aFw ?lFw ?dFw ?eFw ?aMv ?lMv ?dMv ?eMv ?aNr ?lNr ?dNr ?eNr ?aNe ?lNe ?dNe ?eNe ?aGr ?lGr ?dGr ?eGr ?aAr ?lAr ?dAr ?eAr ?aLt ?lLt ?dLt ?eLt ?aNT ?lNT ?dNT ?eNT ?aNW ?lNW ?dNW ?eNW ?aBg ?lBg ?dBg ?eBg ?aN ?lN ?dN ?eN ?aNa ?lNa ?dNa ?eNa ?aSe ?lSe ?dSe ?eSe ?aO ?lO ?dO ?eO ?aB ?lB ?dB ?eB ?aBo ?lBo ?dBo ?eBo ?aFt ?lFt ?dFt ?eFt ?aLs ?lLs ?dLs ?eLs ?aLn ?lLn ?dLn ?eLn ?aLp ?lLp ?dLp ?eLp ?aPk ?lPk ?dPk ?ePk ?aDu ?lDu ?dDu ?eDu ?aTo ?lTo ?dTo ?eTo ?aL ?lL ?dL ?eL ?cMOST_SETTINGS ?cMOST_VALUE ?cMOST_STANDINGS ?cLONGEST_NAME ?z_list ?z_len ?z_int ?z_range ?z_tuple ?z_zip ?z_isinstance ?z_str ?z_bool ?z_enumerate ?z_all ?z_repr ?z_min ?z_sum ?z_abs ?z_sorted ?z_set ?eCode
    (case AeS => k_is)
    (case XeS => k_is)
    (case ReS => rfl)
    (case SeS => k_is)
    (case EeS => k_is)
    (case TeS => k_is)
    (case KeS => k_is)
    (case IeS => k_is)
    (case YeS => k_is)
    (case NeS => k_is)
    (case GeS => k_is)
    (case HeS => k_is)
    (case DeS => k_is)
    (case MeS => kernel_rfl)
    (case lieS => k_is)
    (case dieS => k_is)
    (case eieS => k_is)
    (case AeT => k_is)
    (case XeT => k_is)
    (case ReT => rfl)
    (case SeT => k_is)
    (case EeT => k_is)
    (case TeT => k_is)
    (case KeT => k_is)
    (case IeT => k_is)
    (case YeT => k_is)
    (case NeT => k_is)
    (case GeT => k_is)
    (case HeT => k_is)
    (case DeT => k_is)
    (case MeT => kernel_rfl)
    (case lieT => k_is)
    (case dieT => k_is)
    (case eieT => k_is)
    (case AeW => k_is)
    (case XeW => k_is)
    (case ReW => rfl)
    (case SeW => k_is)
    (case EeW => k_is)
    (case TeW => k_is)
    (case KeW => k_is)
    (case IeW => k_is)
    (case YeW => k_is)
    (case NeW => k_is)
    (case GeW => k_is)
    (case HeW => k_is)
    (case DeW => k_is)
    (case MeW => kernel_rfl)
    (case lieW => k_is)
    (case dieW => k_is)
    (case eieW => k_is)
    (case XTS => kernel_rfl)
    (case XWS => kernel_rfl)
    (case XWT => kernel_rfl)
    (case AR => k_is)
    (case IR => k_is)
    (case mkR => k_is)
    (case fnR => k_is)
    (case kpR => k_is)
    (case pgR => k_is)
    (case hdR => k_is)
    (case poR => k_is)
    (case saR => k_is)
    (case n0R => k_is)
    (case n1R => k_is)
    (case n2R => k_is)
    (case n3R => k_is)
    (case n4R => k_is)
    (case lR => k_is)
    (case dR => k_is)
    (case eR => k_is)
    (case k0R => k_is)
    (case k1R => k_is)
    (case apI => k_is)
    (case lpI => k_is)
    (case dpI => k_is)
    (case epI => k_is)
    (case apN => k_is)
    (case lpN => k_is)
    (case dpN => k_is)
    (case epN => k_is)
    (case apS => k_is)
    (case lpS => k_is)
    (case dpS => k_is)
    (case epS => k_is)
    (case apD => k_is)
    (case lpD => k_is)
    (case dpD => k_is)
    (case epD => k_is)
    (case apA => k_is)
    (case lpA => k_is)
    (case dpA => k_is)
    (case epA => k_is)
    (case apG => k_is)
    (case lpG => k_is)
    (case dpG => k_is)
    (case epG => k_is)
    (case aSt => k_is)
    (case lSt => k_is)
    (case dSt => k_is)
    (case eSt => k_is)
    (case aSw => k_is)
    (case lSw => k_is)
    (case dSw => k_is)
    (case eSw => k_is)
    (case aFw => k_is)
    (case lFw => k_is)
    (case dFw => k_is)
    (case eFw => k_is)
    (case aMv => k_is)
    (case lMv => k_is)
    (case dMv => k_is)
    (case eMv => k_is)
    (case aNr => k_is)
    (case lNr => k_is)
    (case dNr => k_is)
    (case eNr => k_is)
    (case aNe => k_is)
    (case lNe => k_is)
    (case dNe => k_is)
    (case eNe => k_is)
    (case aGr => k_is)
    (case lGr => k_is)
    (case dGr => k_is)
    (case eGr => k_is)
    (case aAr => k_is)
    (case lAr => k_is)
    (case dAr => k_is)
    (case eAr => k_is)
    (case aLt => k_is)
    (case lLt => k_is)
    (case dLt => k_is)
    (case eLt => k_is)
    (case aNT => k_is)
    (case lNT => k_is)
    (case dNT => k_is)
    (case eNT => k_is)
    (case aNW => k_is)
    (case lNW => k_is)
    (case dNW => k_is)
    (case eNW => k_is)
    (case aBg => k_is)
    (case lBg => k_is)
    (case dBg => k_is)
    (case eBg => k_is)
    (case aN => k_is)
    (case lN => k_is)
    (case dN => k_is)
    (case eN => k_is)
    (case aNa => k_is)
    (case lNa => k_is)
    (case dNa => k_is)
    (case eNa => k_is)
    (case aSe => k_is)
    (case lSe => k_is)
    (case dSe => k_is)
    (case eSe => k_is)
    (case aO => k_is)
    (case lO => k_is)
    (case dO => k_is)
    (case eO => k_is)
    (case aB => k_is)
    (case lB => k_is)
    (case dB => k_is)
    (case eB => k_is)
    (case aBo => k_is)
    (case lBo => k_is)
    (case dBo => k_is)
    (case eBo => k_is)
    (case aFt => k_is)
    (case lFt => k_is)
    (case dFt => k_is)
    (case eFt => k_is)
    (case aLs => k_is)
    (case lLs => k_is)
    (case dLs => k_is)
    (case eLs => k_is)
    (case aLn => k_is)
    (case lLn => k_is)
    (case dLn => k_is)
    (case eLn => k_is)
    (case aLp => k_is)
    (case lLp => k_is)
    (case dLp => k_is)
    (case eLp => k_is)
    (case aPk => k_is)
    (case lPk => k_is)
    (case dPk => k_is)
    (case ePk => k_is)
    (case aDu => k_is)
    (case lDu => k_is)
    (case dDu => k_is)
    (case eDu => k_is)
    (case aTo => k_is)
    (case lTo => k_is)
    (case dTo => k_is)
    (case eTo => k_is)
    (case aL => k_is)
    (case lL => k_is)
    (case dL => k_is)
    (case eL => k_is)
    (case cMOST_SETTINGS => k_is)
    (case cMOST_VALUE => k_is)
    (case cMOST_STANDINGS => k_is)
    (case cLONGEST_NAME => k_is)
    (case z_list => k_is)
    (case z_len => k_is)
    (case z_int => k_is)
    (case z_range => k_is)
    (case z_tuple => k_is)
    (case z_zip => k_is)
    (case z_isinstance => k_is)
    (case z_str => k_is)
    (case z_bool => k_is)
    (case z_enumerate => k_is)
    (case z_all => k_is)
    (case z_repr => k_is)
    (case z_min => k_is)
    (case z_sum => k_is)
    (case z_abs => k_is)
    (case z_sorted => k_is)
    (case z_set => k_is)
    (case eCode => rfl)
  case tabHd => intro w; kernel_rfl
  case tabNo => intro w; kernel_rfl
