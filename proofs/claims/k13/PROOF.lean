import PyProof.Rows.All
import Wide.All
import OpenK.AllK
import Wide.FinOn
import PyProof.EqAt
import PyProof.EqKinds
import PyProof.TupleCall
import HandS.ForMost
import HandS.ExcInit
import HandS.IsInst
import HandS.Wide
import HandS.WideBits
import HandS.ExcValue
import KE.KExcIs
import KE.KExcInit
import HandS.Defaults
import HandS.HeadHook2
import HandS.HeadEnd
import HandS.Head2
import HandS.Conv
import KE.KOpsOwn
import HandS.OwnEq
import HandS.Property
import HandS.ClsMeth
import HandS.Gcd
import HandS.MakeKw
import HandS.Star
import HandS.MethStar
import PyProof.InstNe
import HandS.Flow
import HandS.Head3
import HandS.TryMany
import HandS.ExcOwn
import HandS.Lambda
import HandS.Walk
import HandS.FStr
import KE.KAssignIn
import HandS.EndTab
import KE.KRevSl
import HandS.RaiseMore
import KE.KCallOwn
import KE.KFmtOwn
import PyProof.InstSpecial
import HandS.HotCalls
import HandS.WordsExc
import PySem.Challenge.RW_fademodes_k13_whole_moves_behind_one_ano
set_option Elab.async false
set_option linter.all false
set_option maxRecDepth 100000
set_option maxHeartbeats 4000000
namespace GL
open PySem PySem.Spec PyProof.Rows L2

/-! ### promises that hold where no container is being shown -/
structure FnG (P : Program) (w : World) (K : PySem.W.Frag) (mg : Str → Option Value) (base : Heap) (CX : CXT) (k : Nat) (f : Addr) (fd : FuncData) (ps : List Str) (sp : Sp) : Prop where
  many : ∀ vs H Q E, sp vs H Q E → vs.length = ps.length
  go : ∀ (A : Around) (outer : List Env) (s : Shared) (H : Hp) (args : Args) (us : List Value) (vs : List V) (Q : VK) (E : XK), A.guards = some [] → Room k A →
    Env0 P w K mg base A outer s H → BindsTo s fd args (ps.zip us) → Vals vs us → sp vs H Q E → codeAny (model P w) A (.call (.ref f) args) (CR CX outer P w H s Q E) s
theorem FnG.of {P : Program} {w : World} {K : PySem.W.Frag} {mg : Str → Option Value} {base : Heap} {CX : CXT} {k : Nat} {f : Addr} {fd : FuncData} {ps : List Str} {sp : Sp} (F : FnOk P w K mg base CX k f fd ps sp) : FnG P w K mg base CX k f fd ps sp :=
  ⟨F.len, fun A outer s H args us vs Q E _ => F.run A outer s H args us vs Q E⟩

section
variable {P : Program} {w : World} {K : PySem.W.Frag} {mg : Str → Option Value} {base : Heap} {CX : CXT}
theorem FnG.ofBody {k : Nat} {f : Addr} {name qual : Str} {params : Arguments} {body : List Stmt} {scope : Scope} {dV kV doc pm cdv ct oc : Value} {an od : Option Addr} {osl : Array (Option Value)} {N ps : List Str} {sp : Sp}
    (lk : K.lookup f = some ⟨oc, od, .func (PySem.W.fnOf name qual params body scope dV kV doc pm an cdv ct), osl⟩) (hcd : PySem.W.codeIn K cdv qual = true) (S : FnScope N ps scope) (many : ∀ vs H Q E, sp vs H Q E → vs.length = ps.length)
    (hbody : ∀ (A : Around) (outer : List Env) (s : Shared) (H : Hp) (vs : List V) (Q : VK) (E : XK), A.guards = some [] → Room k (A.deeper (envOfC qual scope s.heap.objs.size f cdv)) → sp vs H Q E →
      ∃ t, PSs (cxOf CX P w K mg base N qual scope f cdv A outer s H E) body t ∧ t { nx := fun _ H' => Q .non H', rt := Q } (start N vs) H) :
    FnG P w K mg base CX (k + 1) f (PySem.W.fnOf name qual params body scope dV kV doc pm an cdv ct) ps sp := by
  constructor
  · exact many
  intro A outer s H args us vs Q E gd hr e0 hb rv hsp
  have sameLen := many _ _ _ _ hsp
  have inS : K.In s.heap := e0.mod.kin.keeps fun b o e => (e0.bs b o e).1
  have noLim : s.heap.NoLimit := e0.mod.nolimit.keeps fun b o e => (e0.bs b o e).1
  have kinds : ∀ y ∈ ps.zip us, scope.names.lookup y.1 = some .local ∨ (scope.names.lookup y.1 = some .cell ∧ ((cellsFrom (s.heap.objs.size + 1) scope.names []).lookup y.1).isSome = true) := by
    intro y hy
    have hm := (List.of_mem_zip (a := y.1) (b := y.2) hy).1
    exact (S.par y.1 hm).imp id fun q => ⟨q, PySem.W.cellsFrom_some _ _ _ (.inl q)⟩
  apply codeAny_call_function hr.depth (inS _ _ lk) rfl S.co S.gen rfl (PySem.W.codeRec_of inS hcd)
  apply hb
  apply wpAny_newFunctionEnv_cells S.kind kinds
  intro env he s1 entered
  cases he
  refine ⟨noLim.keeps entered.toInCall.keep, codeAny_func ?_⟩
  obtain ⟨t, tOk, tRun⟩ := hbody A outer s H vs Q E gd (hr.deeper _) hsp
  have atStart : Inv (cxOf CX P w K mg base N qual scope f cdv A outer s H E) [] (start N vs) H s1 := inv_start S hr.hd e0 sameLen rv entered
  refine wpAny_mono (tOk.run [] s1 (start N vs) H _ atStart tRun) (fun fl s' hs => ?_) fun e s' hs => hs
  match fl, hs with
  | .ret u, hs =>
    obtain ⟨v, σ', H', J, r, q⟩ := hs
    exact ⟨v, H', J.os, J.bare, J.base, J.hok, r, q⟩
  | .next, hs =>
    obtain ⟨σ', H', J, q⟩ := hs
    exact ⟨V.non, H', J.os, J.bare, J.base, J.hok, rfl, q⟩
  | .brk, hs =>
    obtain ⟨_, _, _, q⟩ := hs
    exact False.elim q
  | .cont, hs =>
    obtain ⟨_, _, _, q⟩ := hs
    exact False.elim q
end

section
variable {X : Cx} {CX : CXT} {k : Nat} {f : Addr} {fd : FuncData} {ps : List Str} {sp : Sp} {dvs : List V} {ds : List Value} {E : XK} {x : Str} {p pos : Pos} {e : Expr} {es : List Expr} {t : TA}
theorem FnG.call {pins : List (Addr × Obj)} {σ : L2.St} {H : Hp} {s : Shared} {Q : VK} {us : List Value} {vs : List V} (F : FnG X.prog X.w X.K X.mg X.base CX k f fd ps sp) (gd : X.A.guards = some []) (hr : Room k X.A) (hb : Binds X.K fd ps ds) (hd : Vals dvs ds)
    (hx : Passes CX X E) (I : Inv X pins σ H s) (r : Vals vs us) (h : sp (vs ++ dvs) H Q E) : wpAny (model X.prog X.w) X.A (PySem.call (.ref f) us) (EP X pins σ Q) X.xe s := by
  have all := r.append hd
  have hl : (us ++ ds).length = ps.length := all.length.symm.trans (F.many _ _ _ _ h)
  apply wpAny_call
  refine codeAny_mono (F.go X.A X.stack s H ⟨us, []⟩ (us ++ ds) (vs ++ dvs) Q E gd hr I.env0 (hb s us I.kIn hl) all h) ?_
  intro r' s' hq
  match r', hq with
  | .error er, hq => exact hx pins σ H s er s' I hq
  | .ok (.ret u), hq => exact I.after hq
  | .ok .next, hq => exact False.elim hq
  | .ok .brk, hq => exact False.elim hq
  | .ok .cont, hq => exact False.elim hq
/-- f(e, ..), f one of these defs -/
theorem pe_callG (F : FnG X.prog X.w X.K X.mg X.base CX k f fd ps sp) (gd : X.A.guards = some []) (hr : Room k X.A) (hg : Gl X x) (hm : X.mg x = some (.ref f)) (hk : PySem.W.keepIn X.K (.ref f) = true) (hb : Binds X.K fd ps ds) (hd : Vals dvs ds) (hx : Passes CX X E)
    (ha : PA X (e :: es) t) (hdb : (x == ("__debug__" : Str)) = false := by decide) (he : starEach (e :: es) X.env = (false, eval e X.env) :: starEach es X.env := by rfl) (hpl : (backTo pos (starEach es X.env)).any (·.1) = false := by rfl) :
    PE X (.Call (.Name x p) (e :: es) [] pos) (tCall sp dvs E t) := by
  constructor
  intro pins s σ H Q I h
  apply wpAny_Call_Name_kw
  refine ld_glob I hg hm ?_ hdb
  refine PySem.W.callWith_K (h₀ := X.base) I.ok.mod.kin hk (thn (ha.run pos pins s σ H _ I h) ?_) he hpl
  rintro us s1 ⟨vs, H1, I1, r, q⟩
  exact ⟨I1.kIn, F.call gd hr hb hd hx I1 r q⟩
theorem pe_callG0 (F : FnG X.prog X.w X.K X.mg X.base CX k f fd ps sp) (gd : X.A.guards = some []) (hr : Room k X.A) (hg : Gl X x) (hm : X.mg x = some (.ref f)) (hk : PySem.W.keepIn X.K (.ref f) = true) (hb : Binds X.K fd ps ds) (hd : Vals dvs ds) (hx : Passes CX X E)
    (hdb : (x == ("__debug__" : Str)) = false := by decide) : PE X (.Call (.Name x p) [] [] pos) (tCall sp dvs E tNil) := by
  constructor
  intro pins s σ H Q I h
  apply wpAny_Call_Name_kw
  refine ld_glob I hg hm ?_ hdb
  exact PySem.W.callWith_K0 I.kIn hk (F.call (us := []) gd hr hb hd hx I .nil h)
end

section
variable {P : Program} {w : World} {K : PySem.W.Frag} {mg : Str → Option Value} {base : Heap}
theorem Fun.okG {x qual : Str} {st : Stmt} {f : Addr} {fd : FuncData} {N ps : List Str} {k : Nat} {sp : Sp} (F : L2.Fun K x qual st f fd) (S : FnScope N ps (defScope st)) (many : ∀ vs H Q E, sp vs H Q E → vs.length = ps.length)
    (hbody : ∀ (cdv : Value) (A : Around) (outer : List Env) (s : Shared) (H : Hp) (vs : List V) (Q : VK) (E : XK), A.guards = some [] → Room k (A.deeper (envOfC qual (defScope st) s.heap.objs.size f cdv)) → sp vs H Q E →
      ∃ t, PSs (cxOf CX0 P w K mg base N qual (defScope st) f cdv A outer s H E).nox (defBody st) t ∧ t { nx := fun _ H' => Q .non H', rt := Q } (start N vs) H) : FnG P w K mg base CX0 (k + 1) f fd ps sp := by
  obtain ⟨oc, od, kV, doc, pm, an, cdv, ct, osl, rfl, lk, hcd⟩ := F.ex
  refine FnG.ofBody lk hcd S many ?_
  intro A outer s H vs Q E gd hr hsp
  obtain ⟨t, h, q⟩ := hbody cdv A outer s H vs Q E gd hr hsp
  exact ⟨t, h.nox, q⟩
end

/-! ### the law's call -/
theorem law_callG {P : Program} {w : World} {K : PySem.W.Frag} {mg mb : Str → Option Value} {k : Nat} {fa a : Addr} {fd : FuncData} {x : Str} {sp : Sp} {s₁ : Shared} {vs : List Value} {ns : List Int}
    (KX : K.In s₁.heap) (hns : s₁.heap.Ns mainGlobals mg) (hb : s₁.heap.Ns builtinsNs mb) (hbb : ∀ x : Str, x ≠ "__name__" → mb x = bootBuiltins x) (hlim : s₁.heap.NoLimit) (hg : s₁.gens = #[])
    (ha : s₁.heap.get? a = some { cls := .type "list", data := .seq vs.toArray }) (hi : IntsAre vs ns) (hl : ns.length ≤ sizeLine) (hr : Room k callerA)
    (F : ∀ base : Heap, K.In base → base.Ns mainGlobals mg → FnG P w K mg base CX0 k fa fd [x] sp) (hbind : ∀ (s : Shared) (u : Value), BindsTo s fd ⟨[u], []⟩ [(x, u)])
    (hsp : ∀ H : Hp, Only H → SqL K H a (ns.map V.int) → sp [.ref a] H (fun v _ => v = .bl true) E0) :
    codeAny (model P w) callerA (.call (.ref fa) ⟨[.ref a], []⟩) (fun r s' => r = .ok (.ret (.bool true)) ∧ OldK s₁.heap s'.heap ∧ s'.os = s₁.os ∧ AllBare s'.gens) s₁ := by
  have rv := vals_ints hi
  have main : ∀ H : Hp, Only H → SqL K H a (ns.map V.int) → HOk P w H s₁.heap → (∀ b u, H b = some u → b = a ∧ K.lookup a = none) →
      codeAny (model P w) callerA (.call (.ref fa) ⟨[.ref a], []⟩) (fun r s' => r = .ok (.ret (.bool true)) ∧ OldK s₁.heap s'.heap ∧ s'.os = s₁.os ∧ AllBare s'.gens) s₁ := by
    intro H only sq hok ours
    have stays : ∀ {b : Addr} {o : Obj}, s₁.heap.get? b = some o → H b = none → (hidT s₁.heap H).get? b = some o := fun e n => hidT_get e n
    have free : ∀ {b : Addr} {o : Obj} {es : Array DictEntry} {ep : Nat}, s₁.heap.get? b = some o → o.data = .dict es ep → H b = none := by
      intro b o es ep e d
      cases q : H b with
      | none => rfl
      | some u =>
        cases (ours b u q).1
        rw [ha] at e
        cases e
        cases d
    have spaces : ∀ {b : Addr} {m : Str → Option Value}, s₁.heap.Ns b m → (hidT s₁.heap H).Ns b m := fun {b m} ⟨o, es, ep, e, d, r⟩ => ⟨o, es, ep, stays e (free e d), d, r⟩
    have kin : K.In (hidT s₁.heap H) := by
      intro b o e
      refine stays (KX b o e) ?_
      cases q : H b with
      | none => rfl
      | some u =>
        obtain ⟨rfl, z⟩ := ours b u q
        rw [z] at e
        cases e
    have md : Mod K mg (hidT s₁.heap H) := ⟨kin, spaces hns, ⟨mb, spaces hb, hbb⟩, let ⟨mc, h1, h2⟩ := hlim; ⟨mc, spaces h1, h2⟩⟩
    have nofr : ∀ b ∈ frs ([] : List Env), H b = none := fun b z => nomatch z
    have e0 : Env0 P w K mg (hidT s₁.heap H) callerA [] s₁ H := ⟨rfl, md, fun b o e => of_hidT e, Nat.le_of_eq (hidT_size _ _), trivial, nofr, hok, .of_eq hg⟩
    refine codeAny_mono ((F _ kin (spaces hns)).go callerA [] s₁ H ⟨[.ref a], []⟩ [.ref a] [.ref a] _ _ rfl hr e0 (hbind s₁ (.ref a)) (.cons rfl .nil) (hsp H only sq)) ?_
    intro r s' h
    match r, h with
    | .error e, h => exact False.elim h
    | .ok .next, h => exact False.elim h
    | .ok .brk, h => exact False.elim h
    | .ok .cont, h => exact False.elim h
    | .ok (.ret u), h =>
      obtain ⟨v, H', os, bare, un, hok', r', rfl⟩ := h
      cases (show u = Value.bool true from r')
      refine ⟨rfl, OldK.of_keep fun b o e => ?_, os, bare⟩
      cases q : H b with
      | none => exact un.keep b o e q (fun z => nomatch z) (fun z => nomatch z)
      | some u =>
        rcases only b with z | ⟨ob, xs, z⟩
        · rw [q] at z
          cases z
        · have e1 := (hok b _ z).1
          have e2 := (hok' b _ (un.frzs b ob _ z)).1
          rw [e] at e1
          cases e1
          exact e2
  cases hk : K.lookup a with
  | some o =>
    have e := KX a o hk
    rw [ha] at e
    cases e
    have none_ : ∀ b u, (fun _ => none : Hp) b = some u → b = a ∧ K.lookup a = none := fun b u z => nomatch z
    refine main (fun _ => none) (fun _ => .inl rfl) (.inr ⟨_, vs.toArray, _, hk, rfl, rfl, rfl, ?_, by simpa using rv⟩) (fun b u z => nomatch z) none_
    rw [List.size_toArray, hi.length]
    exact hl
  | none =>
    have at_ : ∀ b u, (fun b => if b = a then some (HO.frz { cls := .type "list", data := .seq vs.toArray } (.lst (ns.map V.int))) else none : Hp) b = some u → b = a ∧ u = HO.frz { cls := .type "list", data := .seq vs.toArray } (.lst (ns.map V.int)) := by
      intro b u z
      by_cases hb : b = a
      · have z' := (if_pos hb).symm.trans z
        exact ⟨hb, (Option.some.inj z').symm⟩
      · have z' := (if_neg hb).symm.trans z
        cases z'
    refine main (fun b => if b = a then some (HO.frz { cls := .type "list", data := .seq vs.toArray } (.lst (ns.map V.int))) else none) ?_ (.inl (.inr ⟨{ cls := .type "list", data := .seq vs.toArray }, if_pos rfl⟩)) ?_ ?_
    · intro b
      by_cases hb : b = a
      · exact .inr ⟨_, _, if_pos hb⟩
      · exact .inl (if_neg hb)
    · intro b u z
      obtain ⟨rfl, rfl⟩ := at_ b u z
      exact ⟨ha, by rw [List.length_map]; exact hl, vs, _, rv, ha⟩
    · intro b u z
      exact ⟨(at_ b u z).1, hk⟩

theorem walk_G {l : PySem.W.OpenLaw} {n k : Nat} {q : Program} {loose : List Str} {XP : (Str → Option Value) → Heap → Prop} {YP : World → Heap → Prop} {d : DefRec} {x : Str}
    (hn : l.most = some n) (hn2 : n ≤ sizeLine) (hdf : d.params.defaults = []) (hr : Room k callerA)
    (F : ∀ (w : World) (mg : Str → Option Value) (fa : Addr) (h : Heap), YP w h → h.Ns mainGlobals mg → mg d.name = some (.ref fa) →
      ∃ (K : PySem.W.Frag) (fd : FuncData) (sp : Sp), K.In h ∧ (∀ (s : Shared) (u : Value), BindsTo s fd ⟨[u], []⟩ [(x, u)]) ∧
        (∀ (H : Hp) (a : Addr) (ns : List Int), ns.length ≤ n → Only H → SqL K H a (ns.map V.int) → sp [.ref a] H (fun v _ => v = .bl true) E0) ∧
        ∀ base : Heap, K.In base → base.Ns mainGlobals mg → FnG l.prog w K mg base CX0 k fa fd [x] sp) :
    PySem.W.WalkO q loose XP YP l.row.toRowW d [] (fun f vs => PySem.call f vs) := by
  apply Att.attach_call hn hdf
  intro w s₀ s₁ mg mb fa o pm cd doc a vs ns G Y ho hd hcd hmg hobj hints hlen hg
  obtain ⟨K, fd, sp, KX, hb, hsp, hF⟩ := F w mg fa _ Y G.T.g hmg
  exact law_callG KX G.T.g G.T.b G.T.builtins G.T.nolimit hg hobj hints (Nat.le_trans hlen hn2) hr hF hb fun H only sq => hsp H a ns hlen only sq

/-! ### data that is read, dicts too -/
mutual
inductive Dq (K : PySem.W.Frag) (H : Hp) : V → PyData → Prop
  | non : Dq K H .non .none
  | bl (b : Bool) : Dq K H (.bl b) (.bool b)
  | int (i : Int) : Dq K H (.int i) (.int i)
  | str (x : Str) : Dq K H (.str x) (.str x)
  | lst {a : Addr} {xs : List V} {ds : List PyData} : SqL K H a xs → DqAll K H xs ds → Dq K H (.ref a) (.list ds)
  | tup {a : Addr} {xs : List V} {ds : List PyData} : SqT K H a xs → DqAll K H xs ds → Dq K H (.ref a) (.tuple ds)
  | dct {a : Addr} {kvs : List (Key × V)} {ps : List (PyData × PyData)} : H a = some (.dK kvs) → DqKv K H kvs ps → Dq K H (.ref a) (.dict ps)
inductive DqAll (K : PySem.W.Frag) (H : Hp) : List V → List PyData → Prop
  | nil : DqAll K H [] []
  | cons {v : V} {vs : List V} {d : PyData} {ds : List PyData} : Dq K H v d → DqAll K H vs ds → DqAll K H (v :: vs) (d :: ds)
inductive DqKv (K : PySem.W.Frag) (H : Hp) : List (Key × V) → List (PyData × PyData) → Prop
  | nil : DqKv K H [] []
  | consI {i : Int} {v : V} {d : PyData} {r : List (Key × V)} {ps : List (PyData × PyData)} : Dq K H v d → DqKv K H r ps → DqKv K H ((.inl i, v) :: r) ((.int i, d) :: ps)
  | consS {x : Str} {v : V} {d : PyData} {r : List (Key × V)} {ps : List (PyData × PyData)} : Dq K H v d → DqKv K H r ps → DqKv K H ((.inr x, v) :: r) ((.str x, d) :: ps)
end
end GL
set_option maxHeartbeats 4000000
namespace GL
open PySem PySem.Spec PyProof.Rows L2
/-- the written part knows the table of modules -/
def SysK (K : PySem.W.Frag) : Prop := ∃ o es ep, K.lookup sysModules = some o ∧ o.data = .dict es ep
section
variable {X : Cx} {pins : List (Addr × Obj)} {σ : L2.St} {H : Hp} {s : Shared}
theorem notSys (S : SysK X.K) (I : Inv X pins σ H s) {a : Addr} {o : Obj} {vs : Array Value} {n : Nat} (e : s.heap.get? a = some o) (d : o.data = .seq vs n) : sysModules ≠ a := by
  rintro rfl
  obtain ⟨o', es, ep, l, d'⟩ := S
  have e' := I.kIn _ _ l
  rw [e] at e'
  cases e'
  rw [d] at d'
  cases d'
theorem kvReads {h : Heap} : ∀ {kvs : List (Key × Value)} {es : List DictEntry} {P : Program} {w : World}, Pairs (mixKind P w) es kvs →
    ∀ {ps : List (PyData × PyData)} {as : List Addr}, ReadsAll h (es.map (·.val)) (ps.map (·.2)) as → (∀ i : Nat, (kvs[i]?).map (fun kv => match kv.1 with | .inl j => PyData.int j | .inr x => PyData.str x) = (ps[i]?).map (·.1)) → ReadsAll h (es.map (·.key)) (ps.map (·.1)) [] := by
  intro kvs es P w pr
  induction pr with
  | nil =>
    intro ps as r hk
    cases ps with
    | nil => exact ReadsAll.nil
    | cons p ps => cases r
  | @cons e kv es kvs hk hv _ ih =>
    intro ps as r hh
    cases ps with
    | nil => cases r
    | cons p ps =>
      have h0 := hh 0
      have rest : ∀ i : Nat, (kvs[i]?).map (fun kv => match kv.1 with | .inl j => PyData.int j | .inr x => PyData.str x) = (ps[i]?).map (·.1) := fun i => by simpa using hh (i + 1)
      obtain ⟨pk, pv⟩ := p
      obtain ⟨k, v⟩ := kv
      simp at h0
      cases r with
      | cons r1 r2 =>
        have t := ih r2 rest
        show ReadsAll h (e.key :: es.map (·.key)) (pk :: ps.map (·.1)) ([] ++ [])
        refine ReadsAll.cons ?_ t
        rcases keyIs_shape (show keyIs k e.key = true from hk) with ⟨j, u, rfl, e1⟩ | ⟨x, u, rfl, e1⟩
        · rw [e1, ← h0]
          exact Reads.int j u
        · rw [e1, ← h0]
          exact Reads.str x u
theorem pairsVals {P : Program} {w : World} : ∀ {kvs : List (Key × Value)} {es : List DictEntry}, Pairs (mixKind P w) es kvs → es.map (·.val) = kvs.map (·.2) := by
  intro kvs es pr
  induction pr with
  | nil => rfl
  | @cons e kv es kvs _ hv _ ih => rw [List.map_cons, List.map_cons, ih, hv]
theorem kvVals : ∀ {kvs : List (Key × V)} {vs : List (Key × Value)}, KV kvs vs → Vals (kvs.map (·.2)) (vs.map (·.2)) ∧ ∀ i : Nat, (vs[i]?).map (·.1) = (kvs[i]?).map (·.1)
  | _, _, .nil => ⟨.nil, fun i => by simp⟩
  | _, _, .cons r t => by
    obtain ⟨a, b⟩ := kvVals t
    refine ⟨.cons r.2 a, fun i => ?_⟩
    cases i with
    | zero => simp [r.1]
    | succ i => simpa using b i
theorem kvKeys {K : PySem.W.Frag} {H : Hp} : ∀ {kvs : List (Key × V)} {ps : List (PyData × PyData)}, DqKv K H kvs ps → ∀ i : Nat, (kvs[i]?).map (fun kv => match kv.1 with | .inl j => PyData.int j | .inr x => PyData.str x) = (ps[i]?).map (·.1) := by
  intro kvs
  induction kvs with
  | nil =>
    intro ps h i
    cases h
    rfl
  | cons kv kvs ih =>
    intro ps h i
    cases h with
    | consI a b =>
      cases i with
      | zero => rfl
      | succ i => simpa using ih b i
    | consS a b =>
      cases i with
      | zero => rfl
      | succ i => simpa using ih b i
mutual
theorem Dq.reads (S : SysK X.K) (I : Inv X pins σ H s) : ∀ {v : V} {d : PyData} {u : Value}, Dq X.K H v d → RelV v u → ∃ as, Reads s.heap u d as ∧ sysModules ∉ as
  | _, _, _, .non, r => by
    cases r
    exact ⟨_, Reads.none, List.not_mem_nil⟩
  | _, _, _, .bl b, r => by
    cases r
    exact ⟨_, Reads.bool b, List.not_mem_nil⟩
  | _, _, _, .int i, r => by
    obtain ⟨t, rfl⟩ := r
    exact ⟨_, Reads.int i t, List.not_mem_nil⟩
  | _, _, _, .str x, r => by
    obtain ⟨t, rfl⟩ := r
    exact ⟨_, Reads.str x t, List.not_mem_nil⟩
  | _, _, _, .lst hs ha, r => by
    cases r
    obtain ⟨its, rv, ⟨o, n, ho, hc, _, hd⟩, _⟩ := I.list hs
    obtain ⟨as, hr, hn⟩ := DqAll.reads S I ha rv
    exact ⟨_, Reads.list ho hc hd hr, List.not_mem_cons_of_ne_of_not_mem (notSys S I ho hd) hn⟩
  | _, _, _, .tup hs ha, r => by
    cases r
    obtain ⟨its, rv, ⟨o, ho, hc, n, hd⟩, _⟩ := I.tuple hs
    obtain ⟨as, hr, hn⟩ := DqAll.reads S I ha rv
    exact ⟨_, Reads.tuple ho hc hd hr, hn⟩
  | _, _, _, @Dq.dct _ _ a kvs ps e hk, r => by
    cases r
    obtain ⟨_, ns, vs, kv, o, es, ep, ho, ex, hd, _, pr, _⟩ := I.hok a _ e
    obtain ⟨rv, ks⟩ := kvVals kv
    obtain ⟨as, hr, hn⟩ := DqKv.reads S I hk rv
    rw [← pairsVals pr] at hr
    have kr := kvReads pr hr (fun i => by
      rw [← kvKeys hk i]
      have := ks i
      cases q : vs[i]? <;> cases q' : kvs[i]? <;> rw [q, q'] at this <;> simp at this ⊢
      rw [this])
    refine ⟨_, Reads.dict ho ex.1 hd kr hr, ?_⟩
    refine List.not_mem_cons_of_ne_of_not_mem (fun z => ?_) (by simpa using hn)
    rw [← z] at ns
    simp at ns
theorem DqAll.reads (S : SysK X.K) (I : Inv X pins σ H s) : ∀ {vs : List V} {ds : List PyData} {us : List Value}, DqAll X.K H vs ds → Vals vs us → ∃ as, ReadsAll s.heap us ds as ∧ sysModules ∉ as
  | _, _, _, .nil, r => by
    cases r
    exact ⟨_, ReadsAll.nil, List.not_mem_nil⟩
  | _, _, _, .cons h1 h2, .cons r1 r2 => by
    obtain ⟨as, q1, n1⟩ := Dq.reads S I h1 r1
    obtain ⟨bs, q2, n2⟩ := DqAll.reads S I h2 r2
    exact ⟨_, ReadsAll.cons q1 q2, by simp [n1, n2]⟩
theorem DqKv.reads (S : SysK X.K) (I : Inv X pins σ H s) : ∀ {kvs : List (Key × V)} {ps : List (PyData × PyData)} {us : List Value}, DqKv X.K H kvs ps → Vals (kvs.map (·.2)) us → ∃ as, ReadsAll s.heap us (ps.map (·.2)) as ∧ sysModules ∉ as
  | _, _, _, .nil, r => by
    cases r
    exact ⟨_, ReadsAll.nil, List.not_mem_nil⟩
  | _, _, _, .consI h1 h2, .cons r1 r2 => by
    obtain ⟨as, q1, n1⟩ := Dq.reads S I h1 r1
    obtain ⟨bs, q2, n2⟩ := DqKv.reads S I h2 r2
    exact ⟨_, ReadsAll.cons q1 q2, by simp [n1, n2]⟩
  | _, _, _, .consS h1 h2, .cons r1 r2 => by
    obtain ⟨as, q1, n1⟩ := Dq.reads S I h1 r1
    obtain ⟨bs, q2, n2⟩ := DqKv.reads S I h2 r2
    exact ⟨_, ReadsAll.cons q1 q2, by simp [n1, n2]⟩
end
end

/-! ### repr of data -/
def rRepr (K : PySem.W.Frag) : List V → Hp → VK → Prop := fun xs H Q => ∃ (a : Addr) (d : PyData), xs = [.ref a] ∧ Dq K H (.ref a) d ∧ d.showable = true ∧ d.depth ≤ 40 ∧ d.shown.length ≤ sizeLine ∧ Q (.str d.shown) H
theorem call_reprD {X : Cx} (S : SysK X.K) (gd : X.A.guards = some []) (hu : X.A.units + 64 < cLine) : CallR X (.builtin "repr") (rRepr X.K) := by
  intro pins s σ H xs us Q I r h
  obtain ⟨a, d, rfl, hd, sh, dp, sz, q⟩ := h
  cases r with
  | cons r1 r2 =>
    cases r2
    cases r1
    obtain ⟨as, rd, ns⟩ := Dq.reads S I hd rfl
    refine repr_of_reads' rd sh (fun _ => ns) gd (by omega) (fun b o e => e) (fun h' u tk keep => ?_) sz
    exact ⟨.str d.shown, H, I.kept keep, ⟨u, rfl⟩, q⟩
end GL
set_option maxHeartbeats 4000000
/-! Errors of the program as values: made by places and by names, their fields stored and read, isinstance. -/
namespace PySem
namespace GX
open PySem.W PySem.Calls PyProof.Rows PySem.HandSPX Builtin Builtin.ObjectAttr
section
variable {prog : Program} {w : World} {A : Around} {E : Value → Shared → Prop} {R : Result → Shared → Prop} {hp : Heap} {g : Array GenState} {d : Drawn} {t : Nat} {os : OsState}
variable {nm q : Str} {C N : Addr} {bs bm bmB : List Value} {hdct : Bool} {sn : List Str} {sub : List Value} {ab : Bool} {col : Option Bool} {dd : Option Addr} {k0 k1 k2 k3 k5 : Option Value} {B newId initId : String}
theorem tail_some {l : List Value} (hB : bmB.isEmpty = false) (e : excTail bmB l = true) : l.isEmpty = false := by
  cases l with
  | cons _ _ => rfl
  | nil =>
    have q : ([] : List Value) = bmB := beq_iff_eq.mp e
    rw [← q] at hB
    exact hB
/-- the way of a store at an error's object as far as the own dict -/
theorem to_own {K : W.Frag} {name : Str} {tk : Tok} {v : Value} {x : Addr} {ox : Obj} {od : Option Obj} {cd : ClassData} (SB : StoreFacts B bmB "object.__setattr__" "object") (hB : bmB.isEmpty = false) (hO : bmB.contains (.type "object") = true)
    (X : K.In hp) (I : W.InstAt hp x ox C od) (hcd : W.clsIn K C = some cd) (hm : excTail bmB cd.mro = true) (ha : W.findIn K (.ref C) name = some none)
    (h : wpAny (model prog w) A.in1 (storeInOwnDict (.ref x) (.ref C) (.str name tk) name v false)
      (fun fin s' => match fin with | .done f => R (.ok f) s' | .again c' => c'.quiet = true ∧ codeAny (model prog w) A c' R s') (fun e s' => R (.error e) s') ⟨hp, g, d, t, os⟩) :
    codeAny (model prog w) A (.call (.builtin "object.__setattr__") ⟨[.ref x, .str name tk, v], []⟩) R ⟨hp, g, d, t, os⟩ := by
  have SO := F.store_object
  have some_ := tail_some hB hm
  have obj : cd.mro.contains (.type "object") = true := (excTail_contains "object" _ hm).trans hO
  have isO : W.Looks (model prog w) hp (isInstance (.ref x) (.type "object")) true := by
    refine I.type.andThen (W.looks_mroIn X ?_)
    unfold W.mroIn
    rw [hcd, Option.bind_some, some_, obj]
    rfl
  apply codeAny_call_builtin SO.slot.plain SO.entry
  refine @W.check_slot (model prog w) _ _ ⟨hp, g, d, t, os⟩ "object.__setattr__" "object" "__setattr__" (.ref x) [.str name tk, v] [] _ SO.kind SO.split isO (SO.args (.ref x) (.str name tk) v) ?_
  have mro : W.Looks (model prog w) hp (mroOf (.ref C)) cd.mro := (W.looks_clsIn X hcd).andThen .now
  have nobody : W.Looks (model prog w) hp (storeTaker? none) none := .now
  rw [W.osa_eq, refuse_eq]
  apply wpAny_bind
  apply wpAny_bind
  apply I.type.at
  apply wpAny_bind
  apply mro.at
  rw [excTail_pass (.ref x) (SB.passes (.ref x)) _ hm]
  apply wpAny_pure
  apply wpAny_bind
  apply I.type.at
  apply wpAny_bind
  apply (W.looks_findIn X ha).at
  apply wpAny_bind
  apply nobody.at
  exact h
/-- the first field: the error gets its dict -/
theorem store_first {K : W.Frag} {name : Str} {tk : Tok} {v : Value} {x : Addr} {fv : Array Value} {cd : ClassData} (SB : StoreFacts B bmB "object.__setattr__" "object") (hB : bmB.isEmpty = false) (hO : bmB.contains (.type "object") = true)
    (X : K.In hp) (hx : hp.get? x = some { cls := .ref C, data := .fields fv }) (hcd : W.clsIn K C = some cd) (hm : excTail bmB cd.mro = true) (hh : cd.hasDict = true) (ha : W.findIn K (.ref C) name = some none)
    (hq : ∀ h' tk' dx, (∀ b o, b ≠ x → hp.get? b = some o → h'.get? b = some o) → hp.objs.size ≤ dx → dx ≠ x → h'.get? x = some { cls := .ref C, dict := some dx, data := .fields fv } →
      h'.Ns1 dx (fun y => if y = name then some v else none) → R (.ok (.ret .none)) ⟨h', g, d, tk', os⟩) :
    codeAny (model prog w) A (.call (.builtin "object.__setattr__") ⟨[.ref x, .str name tk, v], []⟩) R ⟨hp, g, d, t, os⟩ := by
  have I : W.InstAt hp x { cls := .ref C, data := .fields fv } C none := ⟨hx, rfl, rfl, trivial⟩
  have cl : W.Looks (model prog w) hp (classData C) cd := W.looks_clsIn X hcd
  have apart : x ≠ hp.objs.size := Nat.ne_of_lt (Heap.lt_size hx)
  apply to_own SB hB hO X I hcd hm ha
  rcases cd with ⟨n1, n2, n3, n4, n5, n6, n7, n8, n9, n10, n11⟩
  cases (show n6 = true from hh)
  unfold storeInOwnDict ownDictForStores
  repeat (first | with_reducible refine HandSPX.store_in_new ?_ ?_ | with_reducible refine wpAny_loadPart_at hx ?_ | with_reducible refine cl.at ?_ | wp_step)
  · exact ⟨_, #[], _, (Heap.get?_update_ne _ _ _ _ apart.symm).trans (Heap.get?_push_at rfl rfl), rfl, fun e he => absurd he (by simp), fun _ => rfl⟩
  · intro h' tk' named but
    have there : (hp.push { cls := .type "dict", data := .dict #[] }).get? x = some { cls := .ref C, data := .fields fv } := Heap.get?_push_of_some _ hx
    apply hq h' tk' hp.objs.size
    · intro b o hb ho
      rw [but.2 b (Nat.ne_of_lt (Heap.lt_size ho)), Heap.get?_update_ne _ _ _ _ hb]
      exact Heap.get?_push_of_some _ ho
    · exact Nat.le_refl _
    · exact apart.symm
    · rw [but.2 x apart]
      exact Heap.get?_update_self _ there rfl
    · exact named
/-- a further field -/
theorem store_next {K : W.Frag} {name : Str} {tk : Tok} {v : Value} {x dx : Addr} {fv : Array Value} {cd : ClassData} {m0 : Str → Option Value} {nl : List Str} (SB : StoreFacts B bmB "object.__setattr__" "object") (hB : bmB.isEmpty = false) (hO : bmB.contains (.type "object") = true)
    (X : K.In hp) (hx : hp.get? x = some { cls := .ref C, dict := some dx, data := .fields fv }) (hns : hp.Ns1 dx m0) (hw : Within m0 nl) (hz : nl.length ≤ 1000) (hcd : W.clsIn K C = some cd) (hm : excTail bmB cd.mro = true) (hh : cd.hasDict = true) (ha : W.findIn K (.ref C) name = some none)
    (hq : ∀ h' tk', (∀ b o, b ≠ dx → hp.get? b = some o → h'.get? b = some o) → h'.Ns1 dx (fun y => if y = name then some v else m0 y) → R (.ok (.ret .none)) ⟨h', g, d, tk', os⟩) :
    codeAny (model prog w) A (.call (.builtin "object.__setattr__") ⟨[.ref x, .str name tk, v], []⟩) R ⟨hp, g, d, t, os⟩ := by
  obtain ⟨oD, esD, epD, atD, isD, _⟩ := hns.count hw
  have I : W.InstAt hp x { cls := .ref C, dict := some dx, data := .fields fv } C (some oD) := ⟨hx, rfl, rfl, atD⟩
  have cl : W.Looks (model prog w) hp (classData C) cd := W.looks_clsIn X hcd
  apply to_own SB hB hO X I hcd hm ha
  rcases cd with ⟨n1, n2, n3, n4, n5, n6, n7, n8, n9, n10, n11⟩
  cases (show n6 = true from hh)
  unfold storeInOwnDict ownDictForStores
  repeat (first | with_reducible refine OEX.store_in_old hns hw hz ?_ | with_reducible refine wpAny_loadPart_at hx ?_ | with_reducible refine cl.at ?_ | wp_step)
  intro h' tk' named but
  exact hq h' tk' (fun b o hb ho => (but.2 b hb).trans ho) named

/-! ### C(.., k = ..) of an error class with an __init__ of its own -/
theorem made (FB : ExcBaseFacts B newId initId bmB) (hT : ∀ X : String, bm.contains (.type X) = bmB.contains (.type X)) {rest : List Value} {kw : List (Str × Value)} {fI : Addr}
    (hC : hp.get? C = some (excClassObj nm q C N bs bm hdct sn sub ab col dd k0 k1 k2 k3 k5 newId))
    (hi : W.Looks (model prog w) hp (typeLookup (.ref C) "__init__") (some (.ref fI))) (hb : ∀ self, W.Looks (model prog w) hp (bindSpecial (.ref fI) self) (.ref fI, [self])) (hrest : rest.length ≤ sizeLine)
    (hq : codeAny (model prog w) (A.under (.builtin "type.__call__" ⟨.ref C :: rest, kw⟩)) (.call (.ref fI) ⟨.ref (hp.objs.size + 1) :: rest, kw⟩) (W.InitBack (hp.objs.size + 1) R)
      ⟨(hp.push (W.kdv_tup rest)).push (excO C hp.objs.size), g, d, t, os⟩) :
    codeAny (model prog w) A (.call (.ref C) ⟨rest, kw⟩) R ⟨hp, g, d, t, os⟩ := by
  have f1 := tc_lookup
  have f2 := tc_bind (.ref C)
  have isC : (⟨hp, g, d, t, os⟩ : Shared).TypeIs (.ref C) "type" := ⟨_, hC, rfl⟩
  have kept : ∀ b o, hp.get? b = some o → ((hp.push (W.kdv_tup rest)).push (excO C hp.objs.size)).get? b = some o := fun b o e => Heap.get?_push_of_some _ (Heap.get?_push_of_some _ e)
  have inB : (Value.ref C :: bm).contains (.type B) = true := by rw [List.contains_cons, hT, FB.hasB, Bool.or_true]
  have noA : (Value.ref C :: bm).contains (.type "AttributeError") = false := by rw [List.contains_cons, hT, FB.noAttr]; rfl
  have noN : (Value.ref C :: bm).contains (.type "NameError") = false := by rw [List.contains_cons, hT, FB.noName]; rfl
  have inC : (Value.ref C :: bm).contains (.ref C) = true := by simp
  have ends := FB.ends
  have star := FB.noStar
  apply codeAny_of_tree
  show wpAny _ _ (callAny (.ref C) _) _ _ _
  repeat (any_goals (first | assumption | with_reducible refine wpAny_loadPart_at hC ?_ | wp_step))
  refine ⟨rfl, ?_⟩
  apply codeAny_call_builtin_at (Code.quiet_builtin _ (by decide +kernel)) entry_typeCall
  apply wpAny_check_type_call_sub hC
  repeat (first | with_reducible refine wpAny_loadPart_at hC ?_ | with_reducible refine wpAny_madeBy_exc hC ?_ | wp_step)
  apply codeAny_call_builtin_code (Code.quiet_builtin _ FB.quiet)
  simp only [checkBuiltinCall, FB.newKind, FB.newSplit, FB.newRow]
  repeat (first | refine wpAny_loadPart_at hC ?_ | (refine wpAny_isSubtype_exc hC ?_; rw [inB]) | refine wpAny_staticBase_exc hC ?_ | refine wpAny_madeBy_exc hC ?_ | simp only [bne_self_eq_false, Bool.false_eq_true, if_false] | wp_step)
  show codeAny _ _ (Code.builtin newId { pos := Value.ref C :: rest, kw := kw }) _ _
  refine codeAny_builtinAt FB.entry ?_
  unfold Builtin.«BaseException.__new__»
  apply wpAt_bind
  show wpAt _ _ _ (stack >>= _) _ _ _
  refine wpAt_bind (wpAt_stack fun p below => wpAt_of_wpAny ?_)
  wp_walk
  apply wpAt_of_wpAny
  rw [FB.owner]
  repeat (first | with_reducible refine wpAny_madeHere_exc FB.canon hC ?_ | with_reducible refine wpAny_loadPart_at hC ?_ | (with_reducible refine wpAny_isSubtype_exc hC ?_; first | rw [inB] | rw [noA] | rw [noN]) | wp_step)
  show wpAny _ _ _ _ _ _
  rw [Heap.size_push]
  have hC₁ := kept _ _ hC
  have new : ((hp.push (W.kdv_tup rest)).push (excO C hp.objs.size)).get? (hp.objs.size + 1) = some (excO C hp.objs.size) := by heap_get
  have i1 := hi.keeps kept
  have b1 := (hb (.ref (hp.objs.size + 1))).keeps kept
  show wpAny _ _ (isSubtype (.ref C) (.ref C)) _ _ ⟨(hp.push (W.kdv_tup rest)).push (excO C hp.objs.size), g, d, t, os⟩
  refine wpAny_isSubtype_exc hC₁ ?_
  rw [inC]
  repeat (first | with_reducible refine wpAny_loadPart_at new ?_ | wp_step)
  show wpAny _ _ (typeLookup (.ref C) _) _ _ _
  apply i1.at
  apply wpAny_holding
  apply wpAny_bind
  apply b1.at
  apply wpAny_bind
  apply wpAny_call
  refine codeAny_mono hq fun r s' z => ?_
  rcases r with e | (v | _ | _ | _) <;> first | exact z | exact z.elim | skip
  obtain ⟨rfl, z⟩ := z
  first
    | exact wpAny_pure (wpAny_pure z)
    | (wp_walk; exact z)
end
end GX
end PySem
set_option maxHeartbeats 4000000
namespace GL
open PySem PySem.Spec PyProof.Rows L2
/-! ### the hook: the library's facts, and any Bool over the written part, the table of modules in it -/
def kOf (n : Nat) (g : Addr → Option Obj) : PySem.W.Frag := He.frG g (sysModules :: He.asD g n)
abbrev AlX : Type := He.AlD × Bool
def obsX (n : Nat) (fa : List He.Fa) (fn : List He.DefD) (ex : PySem.W.Frag → Bool) (g : Addr → Option Obj) : AlX := (He.obsD fa fn (kOf n g), ex (kOf n g))
def hookX (n : Nat) (fa : List He.Fa) (fn : List He.DefD) (ex : PySem.W.Frag → Bool) : PySem.W.Hook where
  α := AlX
  obs := fun s => obsX n fa fn ex s.heap.get?
  val := fun _ => (He.valD fn, true)
  says := fun _ h => ∃ K : PySem.W.Frag, K.In h ∧ He.SaysD fa fn K ∧ ex K = true
  of := fun _ _ e => ⟨_, He.frG_in, congrArg (fun z : AlX => z.1) e, congrArg (fun z : AlX => z.2) e⟩
  keeps := fun _ _ _ ⟨K, hK, c⟩ k => ⟨K, PySem.W.Frag.In.keeps hK k, c⟩
theorem obsX_eq {n : Nat} {fa : List He.Fa} {fn : List He.DefD} {ex : PySem.W.Frag → Bool} {g : Addr → Option Obj} {s : Shared} (h : ∀ a, g a = s.heap.get? a) : obsX n fa fn ex g = (hookX n fa fn ex).obs s := by
  have e : g = s.heap.get? := funext h
  rw [e]
  rfl
def sysB (K : PySem.W.Frag) : Bool := match K.lookup sysModules with
  | some ⟨_, _, .dict _ _, _⟩ => true
  | _ => false
theorem sysB_ok {K : PySem.W.Frag} (h : sysB K = true) : SysK K := by
  unfold sysB at h
  cases q : K.lookup sysModules with
  | none =>
    rw [q] at h
    cases h
  | some o =>
    obtain ⟨c, dd, dt, sl⟩ := o
    rw [q] at h
    cases dt with
    | dict es ep => exact ⟨_, es, ep, q, rfl⟩
    | _ => cases h

/-! ### classes of errors -/
inductive EB where
  | ve | le | re
  deriving DecidableEq
def EB.name : EB → String
  | .ve => "ValueError"
  | .le => "LookupError"
  | .re => "RuntimeError"
def EB.new : EB → String
  | .ve => "ValueError.__new__"
  | .le => "LookupError.__new__"
  | .re => "RuntimeError.__new__"
def EB.tail (b : EB) : List Value := [.type b.name, .type "Exception", .type "BaseException", .type "object"]
theorem EB.base (b : EB) : ∃ i, ExcBaseFacts b.name b.new i b.tail := by
  cases b with
  | ve => exact ⟨_, PySem.F.excBase_ValueError⟩
  | le => exact ⟨_, PySem.F.excBase_LookupError⟩
  | re => exact ⟨_, PySem.F.excBase_RuntimeError⟩
theorem EB.store (b : EB) : StoreFacts b.name b.tail "object.__setattr__" "object" := by
  cases b with
  | ve => exact PySem.F.store_ValueError
  | le => exact PySem.F.store_LookupError
  | re => exact PySem.F.store_RuntimeError
theorem EB.obj (b : EB) : b.tail.contains (.type "object") = true := by cases b <;> decide +kernel
/-- what the written part says of a class of errors -/
structure XC (K : PySem.W.Frag) (C : Addr) (b : EB) : Prop where
  cls : ∃ nm q N bs bm sn sub ab col dd k0 k1 k2 k3 k5, K.lookup C = some (excClassObj nm q C N bs bm true sn sub ab col dd k0 k1 k2 k3 k5 b.new) ∧ PySem.W.excTail b.tail bm = true
  sa : PySem.W.findIn K (.ref C) "__setattr__" = some (some (.builtin "object.__setattr__"))
  ga : PySem.W.findIn K (.ref C) "__getattribute__" = some (some (.builtin "BaseException.__getattribute__"))
  gg : PySem.W.findIn K (.ref C) "__getattr__" = some none
  kl : PySem.W.findIn K (.ref C) "__class__" = some (some (.builtin "object.__class__"))
  exB : PySem.W.subIn K (.ref C) (.type "BaseException") = some true
  ob : PySem.W.mroIn K C (.type "object") = some true
  keep : PySem.W.keepIn K (.ref C) = true
def xcB (K : PySem.W.Frag) (C : Addr) (b : EB) : Bool :=
  (match K.lookup C with
  | some ⟨.type "type", _, .cls cd, sl⟩ => (match cd.mro, sl.toList with
    | .ref C' :: bm, [_, _, _, _, some (.builtin n), _] => C' == C && (n == b.new && (!cd.hasDel && (cd.hasDict && PySem.W.excTail b.tail bm)))
    | _, _ => false)
  | _ => false) &&
  (He.eqO (PySem.W.findIn K (.ref C) "__setattr__") (some (some (.builtin "object.__setattr__"))) && (He.eqO (PySem.W.findIn K (.ref C) "__getattribute__") (some (some (.builtin "BaseException.__getattribute__"))) &&
  (He.eqO (PySem.W.findIn K (.ref C) "__getattr__") (some none) && (He.eqO (PySem.W.findIn K (.ref C) "__class__") (some (some (.builtin "object.__class__"))) &&
  (decide (PySem.W.subIn K (.ref C) (.type "BaseException") = some true) && (decide (PySem.W.mroIn K C (.type "object") = some true) && PySem.W.keepIn K (.ref C)))))))
theorem xcB_ok {K : PySem.W.Frag} {C : Addr} {b : EB} (h : xcB K C b = true) : XC K C b := by
  obtain ⟨h0, h⟩ := He.ba h
  obtain ⟨h1, h⟩ := He.ba h
  obtain ⟨h2, h⟩ := He.ba h
  obtain ⟨h3, h⟩ := He.ba h
  obtain ⟨h4, h⟩ := He.ba h
  obtain ⟨h5, h⟩ := He.ba h
  obtain ⟨h6, h7⟩ := He.ba h
  refine ⟨?_, He.eqO_ok h1, He.eqO_ok h2, He.eqO_ok h3, He.eqO_ok h4, of_decide_eq_true h5, of_decide_eq_true h6, h7⟩
  split at h0
  · rename_i dd cd sl ho
    split at h0
    · rename_i C' bm k0 k1 k2 k3 n k5 hm hs
      simp only [Bool.and_eq_true, beq_iff_eq, Bool.not_eq_true'] at h0
      obtain ⟨rfl, rfl, e1, e2, e3⟩ := h0
      obtain ⟨nm, bs, mro, ns, qn, hd, sn, sub, ab, col, del⟩ := cd
      dsimp only at hm e1 e2
      subst hm e1 e2
      have hsl : sl = #[k0, k1, k2, k3, some (.builtin b.new), k5] := by
        obtain ⟨l⟩ := sl
        simp only at hs
        rw [hs]
      subst hsl
      exact ⟨nm, qn, ns, bs, bm, sn, sub, ab, col, dd, k0, k1, k2, k3, k5, ho, e3⟩
    · cases h0
  · cases h0
theorem XC.data {K : PySem.W.Frag} {C : Addr} {b : EB} (T : XC K C b) : ∃ cd, PySem.W.clsIn K C = some cd ∧ PySem.W.excTail b.tail cd.mro = true ∧ cd.hasDict = true := by
  obtain ⟨nm, q, N, bs, bm, sn, sub, ab, col, dd, k0, k1, k2, k3, k5, hC, hbm⟩ := T.cls
  refine ⟨{ name := nm, bases := bs, mro := .ref C :: bm, ns := N, qualname := q, hasDict := true, slotNames := sn, subclasses := sub, abstract := ab, collection := col, hasDel := false }, ?_, hbm, rfl⟩
  unfold PySem.W.clsIn
  rw [hC]

section
variable {X : Cx} {pins : List (Addr × Obj)} {σ : L2.St} {H : Hp} {s : Shared} {a C dx : Addr} {b : EB} {f : Str} {y : V} {u : Value} {fs : List (Str × V)} {Q : Unit → Shared → Prop} {E : Value → Shared → Prop} {A : Around}
theorem put_first (T : XC X.K C b) (I : Inv X pins σ H s) (e : H a = some (exo a C none)) (hno : PySem.W.findIn X.K (.ref C) f = some none) (ry : RelV y u)
    (h : ∀ dx s', H dx = none → dx ≠ a → Inv X pins σ (upd (upd H dx (exd dx [(f, y)])) a (exo a C (some dx))) s' → Q () s') : wpAny (model X.prog X.w) A (setAttr (.ref a) f u) Q E s := by
  obtain ⟨cd, hcl, tl, hd⟩ := T.data
  obtain ⟨t1, ho⟩ := exo_at I.hok e
  rcases s with ⟨hp, g, d, t, os⟩
  refine PySem.W.set_plain I.kIn (ox := { cls := .ref C, dict := none, data := .fields #[.ref t1, .none, .none, .none, .bool false, .none] }) (od := none) ⟨ho, rfl, rfl, trivial⟩ T.sa ?_
  refine PySem.GX.store_first b.store rfl b.obj I.kIn ho hcl tl hd hno (fun h' tk' dx k dn dne hx hn => ?_)
  have newD : H dx = none := I.hok.fresh dn
  have offD : ∀ {c : Addr} {o : Obj}, hp.get? c = some o → c ≠ dx := fun q => Nat.ne_of_lt (Nat.lt_of_lt_of_le (Heap.lt_size q) dn)
  have offA : ∀ {c : Addr}, H c = none → c ≠ a := by
    rintro c n rfl
    rw [e] at n
    cases n
  refine h dx _ newD dne (I.un (t' := tk') ?_ fun c o q => ?_)
  · exact {
      keep := fun c o q n _ _ => k c o (offA n) q
      slot := fun c o q n _ _ => ⟨o.slots, k c o (offA n) q⟩
      free := fun c o q n _ => by rw [upd_ne (offA n), upd_ne (offD q)]; exact n
      there := fun c o q _ => by
        by_cases hc : c = a
        · exact ⟨_, by rw [hc]; exact hx⟩
        · exact ⟨o, k c o hc q⟩
      tups := fun c xs q => by rw [upd_ne (at_ne e q exo_tup), upd_ne (ne_of_none q newD)]; exact q
      frzs := fun c o v q => by rw [upd_ne (at_ne e q exo_frz), upd_ne (ne_of_none q newD)]; exact q
      tbls := fun c ps q => ⟨#[], by rw [upd_ne (at_ne e q exo_tbl), upd_ne (ne_of_none q newD), q]; simp⟩ }
  · by_cases hc : c = a
    · subst hc
      rw [upd_same] at q
      cases q
      exact exo_ok hx
    · rw [upd_ne hc] at q
      by_cases hd : c = dx
      · subst hd
        rw [upd_same] at q
        cases q
        exact exd_ok hn (relO_put (fs := []) ry fun g => True.intro)
      · rw [upd_ne hd] at q
        refine (I.hok c o q).stay (fun c' v hc' z => k c' v ?_ z) (fun c' hc' => ?_) (fun c' xs hc' => ?_)
        · rcases hc' with hc' | hc'
          · rw [hc']
            exact hc
          · exact at_ne e hc' exo_own
        · rw [upd_ne (at_ne e hc' exo_own), upd_ne (ne_of_none hc' newD)]
          exact hc'
        · rw [upd_ne (at_ne e hc' exo_tup), upd_ne (ne_of_none hc' newD)]
          exact hc'
theorem put_next (T : XC X.K C b) (I : Inv X pins σ H s) (e : H a = some (exo a C (some dx))) (ed : H dx = some (exd dx fs)) (hl : fs.length ≤ 900) (hno : PySem.W.findIn X.K (.ref C) f = some none) (ry : RelV y u)
    (h : ∀ s', Inv X pins σ (upd H dx (exd dx ((f, y) :: fs))) s' → Q () s') : wpAny (model X.prog X.w) A (setAttr (.ref a) f u) Q E s := by
  obtain ⟨cd, hcl, tl, hd⟩ := T.data
  obtain ⟨t1, ho⟩ := exo_at I.hok e
  obtain ⟨mA, hns, rel⟩ := exd_at I.hok ed
  have hw := within_of rel
  rcases s with ⟨hp, g, d, t, os⟩
  obtain ⟨oD, _, _, hoD, _, _⟩ := hns.count hw
  refine PySem.W.set_plain I.kIn (ox := { cls := .ref C, dict := some dx, data := .fields #[.ref t1, .none, .none, .none, .bool false, .none] }) (od := some oD) ⟨ho, rfl, rfl, hoD⟩ T.sa ?_
  refine PySem.GX.store_next b.store rfl b.obj I.kIn ho hns hw (by rw [List.length_map]; omega) hcl tl hd hno (fun h' tk' k hn => ?_)
  have hd : ∃ o, h'.get? dx = some o := by
    obtain ⟨o, _, _, e', _⟩ := hn
    exact ⟨o, e'⟩
  exact h _ (I.write (t' := tk') (x := dx) (e := dx) (o := exd dx ((f, y) :: fs)) (by rw [ed]; exact True.intro) (.inl rfl) k hd (exd_ok hn (relO_put ry rel)))
end
/-- self.f = e in an __init__ of an error -/
def tPut (K : PySem.W.Frag) (f : Str) (to te : TE) : TS := fun D σ H => te σ H fun y H1 => to σ H1 fun x H2 => ∃ (a C : Addr) (b : EB), x = .ref a ∧ XC K C b ∧ PySem.W.findIn K (.ref C) f = some none ∧
  ((H2 a = some (exo a C none) ∧ ∀ dx, H2 dx = none → dx ≠ a → D.nx σ (upd (upd H2 dx (exd dx [(f, y)])) a (exo a C (some dx)))) ∨
    ∃ (dx : Addr) (fs : List (Str × V)), H2 a = some (exo a C (some dx)) ∧ H2 dx = some (exd dx fs) ∧ fs.length ≤ 900 ∧ D.nx σ (upd H2 dx (exd dx ((f, y) :: fs))))
section
variable {X : Cx} {o e : Expr} {es : List Expr} {to te : TE} {ta : TA} {f : Str} {p p' p1 p2 pos : Pos}
theorem ps_put (ho : PE X o to) (he : PE X e te) (hs : swapsWith e (some (.Attribute o f p')) pos.line X.env = pure false := by rfl) : PS X (.Assign [.Attribute o f p'] e pos) (tPut X.K f to te) := by
  constructor
  intro pins s σ H D I h
  refine plainObj_wpAny_Assign_Attribute (thn (he.run pins s σ H _ I h) ?_) hs
  rintro v s1 ⟨y, H1, I1, r1, q1⟩
  refine thn (ho.run pins s1 σ H1 _ I1 q1) ?_
  rintro u s2 ⟨x, H2, I2, r2, a, C, b, rfl, T, hno, q⟩
  cases (show u = Value.ref a from r2)
  rcases q with ⟨ea, q⟩ | ⟨dx, fs, ea, ed, hl, q⟩
  · exact put_first T I2 ea hno r1 fun dx s' n ne J => ⟨σ, _, J, q dx n ne⟩
  · exact put_next T I2 ea ed hl hno r1 fun s' J => ⟨σ, _, J, q⟩

/-! ### an error made, as a value -/
/-- its __init__ runs with these parameters -/
def tErr (C : Addr) (sp : Sp) (t : TA) : TE := fun σ H Q => t σ H fun vs H1 => vs.length ≤ 1000 ∧ ∀ a, H1 a = none → sp (.ref a :: vs) (upd H1 a (exo a C none)) (fun v H2 => v = .non ∧ Q (.ref a) H2) E0
theorem run_err {pins : List (Addr × Obj)} {σ : L2.St} {H : Hp} {s : Shared} {Q : VK} {C fI : Addr} {b : EB} {k : Nat} {fd : FuncData} {ps : List Str} {sp : Sp} {us all : List Value} {kw : List (Str × Value)} {vs : List V} (T : XC X.K C b)
    (iC : PySem.W.findIn X.K (.ref C) "__init__" = some (some (.ref fI))) (tI : PySem.W.typeIn X.K (.ref fI) = some (.type "function")) (F1 : FnOk X.prog X.w X.K X.mg X.base CX0 k fI fd ps sp) (hr : Room (k + 1) X.A)
    (hb : ∀ (s' : Shared) (z : Value), X.K.In s'.heap → BindsTo s' fd ⟨z :: us, kw⟩ (ps.zip (z :: all))) (hl : us.length ≤ 1000) (I : Inv X pins σ H s) (r : Vals vs all)
    (h : ∀ a, H a = none → sp (.ref a :: vs) (upd H a (exo a C none)) (fun v H2 => v = .non ∧ Q (.ref a) H2) E0) :
    wpAny (model X.prog X.w) X.A (PySem.call (.ref C) us kw) (EP X pins σ Q) X.xe s := by
  obtain ⟨nm, q, N, bs, bm, sn, sub, ab, col, dd, k0, k1, k2, k3, k5, hC, hbm⟩ := T.cls
  obtain ⟨i, FB⟩ := b.base
  rcases s with ⟨hp, g, dr, tk, os⟩
  have hsz : hp.objs.size ≤ hp.objs.size + 1 := Nat.le_succ _
  have hn : H (hp.objs.size + 1) = none := I.hok.fresh hsz
  have hq := h (hp.objs.size + 1) hn
  have kk : ∀ b o, hp.get? b = some o → ((hp.push (PySem.W.kdv_tup us)).push (PySem.HandSPX.excO C hp.objs.size)).get? b = some o := fun b o e => Heap.get?_push_of_some _ (Heap.get?_push_of_some _ e)
  have hget : ((hp.push (PySem.W.kdv_tup us)).push (PySem.HandSPX.excO C hp.objs.size)).get? (hp.objs.size + 1) = some (PySem.HandSPX.excO C hp.objs.size) := by heap_get
  have J : Inv X pins σ (upd H (hp.objs.size + 1) (exo (hp.objs.size + 1) C none)) ⟨(hp.push (PySem.W.kdv_tup us)).push (PySem.HandSPX.excO C hp.objs.size), g, dr, tk, os⟩ := I.laid (t' := tk) kk hsz (exo_ok hget)
  have rr : Vals (V.ref (hp.objs.size + 1) :: vs) (Value.ref (hp.objs.size + 1) :: all) := .cons rfl r
  have small : us.length ≤ sizeLine := by
    rw [sizeLine_eq]
    omega
  refine wpAny_call (PySem.GX.made FB (fun Y => PySem.W.excTail_contains Y bm hbm) (I.kIn _ _ hC) (PySem.W.looks_findIn I.kIn iC) (fun self => PySem.W.bind_fn I.kIn self tI) small ?_)
  refine codeAny_mono (F1.run _ X.stack _ _ ⟨Value.ref (hp.objs.size + 1) :: us, kw⟩ (Value.ref (hp.objs.size + 1) :: all) _ _ E0 (hr.make C us kw) (J.env0.make C us kw) (hb _ _ J.kIn) rr hq) ?_
  intro r' s' z
  match r', z with
  | .error er, z => exact False.elim z
  | .ok .next, z => exact False.elim z
  | .ok .brk, z => exact False.elim z
  | .ok .cont, z => exact False.elim z
  | .ok (.ret u), z =>
    obtain ⟨v, H', K1, rv, rfl, q3⟩ := J.after z
    exact ⟨rv, V.ref (hp.objs.size + 1), H', K1, rfl, q3⟩
theorem pe_err {x : Str} {C fI : Addr} {b : EB} {k : Nat} {fd : FuncData} {ps : List Str} {sp : Sp} (T : XC X.K C b) (iC : PySem.W.findIn X.K (.ref C) "__init__" = some (some (.ref fI))) (tI : PySem.W.typeIn X.K (.ref fI) = some (.type "function"))
    (F1 : FnOk X.prog X.w X.K X.mg X.base CX0 k fI fd ps sp) (hr : Room (k + 1) X.A) (hb : Binds X.K fd ps []) (hg : Gl X x) (hm : X.mg x = some (.ref C)) (ha : PA X (e :: es) ta)
    (hdb : (x == ("__debug__" : Str)) = false := by decide) (he : starEach (e :: es) X.env = (false, eval e X.env) :: starEach es X.env := by rfl) (hpl : (backTo pos (starEach es X.env)).any (·.1) = false := by rfl) :
    PE X (.Call (.Name x p) (e :: es) [] pos) (tErr C sp ta) := by
  constructor
  intro pins s σ H Q I h
  apply wpAny_Call_Name_kw
  refine ld_glob I hg hm ?_ hdb
  refine PySem.W.callWith_K (h₀ := X.base) I.ok.mod.kin T.keep (thn (ha.run pos pins s σ H _ I h) ?_) he hpl
  rintro us s1 ⟨vs, H1, I1, r1, hz, q1⟩
  refine ⟨I1.kIn, run_err T iC tI F1 hr (all := us) (fun s' z kin => ?_) (by show us.length ≤ 1000; rw [← Paired.length r1]; exact hz) I1 r1 q1⟩
  have l := F1.len _ _ _ _ (q1 s1.heap.objs.size (I1.hok.fresh (Nat.le_refl _)))
  have b := hb s' (z :: us) kin (by rw [List.append_nil, ← l, List.length_cons, List.length_cons, Paired.length r1])
  simpa using b
end

/-! ### an error's field, isinstance of an error -/
/-- an error of the class at C with these fields -/
def ErrAt (H : Hp) (e C : Addr) (fs : List (Str × V)) : Prop := (fs = [] ∧ H e = some (exo e C none)) ∨ ∃ d, H e = some (exo e C (some d)) ∧ H d = some (exd d fs)
theorem ErrAt.same {H H' : Hp} {e C : Addr} {fs : List (Str × V)} (h : ErrAt H e C fs) (k : Same H H') : ErrAt H' e C fs := by
  rcases h with ⟨rfl, a⟩ | ⟨d, a, b⟩
  · exact .inl ⟨rfl, k _ _ a⟩
  · exact .inr ⟨d, k _ _ a, k _ _ b⟩
theorem ErrAt.inst {X : Cx} {pins : List (Addr × Obj)} {σ : L2.St} {H : Hp} {s : Shared} {e C : Addr} {fs : List (Str × V)} (I : Inv X pins σ H s) (h : ErrAt H e C fs) : ∃ ox od, PySem.W.InstAt s.heap e ox C od ∧ ∀ f v, fs.lookup f = some v → ∃ u oD, od = some oD ∧ RelV v u ∧ PySem.W.lookIn f oD = some (some u) := by
  rcases h with ⟨rfl, a⟩ | ⟨d, a, b⟩
  · obtain ⟨t, ho⟩ := exo_at I.hok a
    exact ⟨_, none, ⟨ho, rfl, rfl, trivial⟩, fun f v z => nomatch z⟩
  · obtain ⟨t, ho⟩ := exo_at I.hok a
    obtain ⟨mA, hns, hr⟩ := exd_at I.hok b
    obtain ⟨oD, hD, hl⟩ := lookIn_ns hns
    refine ⟨_, some oD, ⟨ho, rfl, rfl, hD⟩, fun f v z => ?_⟩
    obtain ⟨u, hu, ru⟩ := RelO.some_of (v := v) (o := mA f) (by rw [← z]; exact hr f)
    exact ⟨u, oD, rfl, ru, by rw [hl, hu]⟩
def tErrFld (K : PySem.W.Frag) (te : TE) (f : Str) : TE := fun σ H Q => te σ H fun x H1 => ∃ (a C : Addr) (b : EB) (fs : List (Str × V)) (v : V), x = .ref a ∧ XC K C b ∧ PySem.W.findIn K (.ref C) f = some none ∧ ErrAt H1 a C fs ∧ fs.lookup f = some v ∧ Q v H1
theorem pe_errfld {X : Cx} {e : Expr} {te : TE} {f : Str} {pos : Pos} (he : PE X e te) (hb : attributeBase e f X.env (eval e X.env) = eval e X.env := by rfl) : PE X (.Attribute e f pos) (tErrFld X.K te f) := by
  constructor
  intro pins s σ H Q I h
  refine attr_of hb (thn (he.run pins s σ H _ I h) ?_)
  rintro u s1 ⟨x, H1, I1, rx, a, C, b, fs, v, rfl, T, no, ea, l, q⟩
  cases (show u = Value.ref a from rx)
  obtain ⟨ox, od, J, look⟩ := ea.inst I1
  obtain ⟨u, oD, rfl, ru, hl⟩ := look f v l
  obtain ⟨cd, hcl, _, hd⟩ := T.data
  have hdct : PySem.W.hasDictIn X.K C = true := by
    unfold PySem.W.hasDictIn
    rw [hcl]
    exact hd
  exact HandSPX.exc_get I1.kIn J T.ga T.gg T.exB (PySem.W.findObj_own hdct no rfl hl) (handed_of ru) ⟨v, H1, I1.tok _, ru, q⟩
def rErrIs (K : PySem.W.Frag) : List V → Hp → VK → Prop := fun xs H Q => ∃ (a C : Addr) (b : EB) (fs : List (Str × V)) (c : V) (cv : Value) (k : Bool), xs = [.ref a, c] ∧ XC K C b ∧ ErrAt H a C fs ∧ ClsV c cv ∧ PySem.W.kitOne K (.ref C) cv = some k ∧ Q (.bl k) H
theorem call_errIs {X : Cx} (hn : PySem.W.specialIn X.K (.builtin "object.__class__") "__get__" = some (some (.builtin "getset_descriptor.__get__"))) (ht : PySem.W.takesIn X.K (.builtin "object.__class__") = some true) : CallR X (.builtin "isinstance") (rErrIs X.K) := by
  intro pins s σ H xs us Q I r h
  obtain ⟨a, C, b, fs, c, cv, k, rfl, T, ea, hc, e, q⟩ := h
  obtain ⟨u1, u2, rfl, r1, r2⟩ := vals2 r
  cases (show u1 = Value.ref a from r1)
  cases hc.eq r2
  obtain ⟨ox, od, J, _⟩ := ea.inst I
  obtain ⟨cd, hcl, _, _⟩ := T.data
  exact PySem.W.kia_one (PySem.W.kitx_exc (by rw [hcl]; rfl) T.ga T.gg T.exB T.kl hn ht T.ob) I.kIn J e (fun z => nomatch z) fun tk => ⟨.bl k, H, I.tok tk, rfl, q⟩
end GL
set_option maxHeartbeats 4000000
namespace GL
open PySem PySem.Spec PyProof.Rows L2
theorem PE.imp {X : Cx} {e : Expr} {t t' : TE} (h : PE X e t) (k : ∀ σ H Q, t' σ H Q → t σ H Q) : PE X e t' := ⟨fun pins s σ H Q I q => h.run pins s σ H Q I (k σ H Q q)⟩
theorem PA.imp {X : Cx} {es : List Expr} {t t' : TA} (h : PA X es t) (k : ∀ σ H Q, t' σ H Q → t σ H Q) : PA X es t' := ⟨fun pos pins s σ H Q I q => h.run pos pins s σ H Q I (k σ H Q q)⟩
theorem fun_of {K : PySem.W.Frag} {x q : Str} {st : Stmt} {kws : List (Str × V)} {f : Addr} {fd : FuncData} (F : FunD K x q (defArgs st) (defBody st) (defScope st) [] kws f fd) : L2.Fun K x q st f fd := by
  obtain ⟨⟨oc, od, dV, kV, doc, pm, an, cdv, ct, osl, e, lk, hcd, hD, hK⟩, kp⟩ := F
  rcases hD with ⟨_, rfl⟩ | ⟨z, _⟩
  · exact ⟨⟨oc, od, kV, doc, pm, an, cdv, ct, osl, e, lk, hcd⟩, kp⟩
  · exact absurd rfl z
/-- C(k = v, ..) of an error: its parameters' values are all, by the keywords' -/
def tErrK (C : Addr) (sp : Sp) (g : List V → List V) (t : TA) : TE := fun σ H Q => t σ H fun zs H1 => ∀ a, H1 a = none → sp (.ref a :: g zs) (upd H1 a (exo a C none)) (fun v H2 => v = .non ∧ Q (.ref a) H2) E0
section
variable {X : Cx} {p pos : Pos} {kws : List Keyword} {tk : TA} {x : Str} {C fI : Addr} {b : EB} {k : Nat} {fd : FuncData} {ps ks : List Str} {sp : Sp}
theorem pe_errK {gV : List V → List V} {gU : List Value → List Value} (T : XC X.K C b) (iC : PySem.W.findIn X.K (.ref C) "__init__" = some (some (.ref fI))) (tI : PySem.W.typeIn X.K (.ref fI) = some (.type "function")) (F1 : FnOk X.prog X.w X.K X.mg X.base CX0 k fI fd ps sp)
    (hr : Room (k + 1) X.A) (hb : ∀ (s : Shared) (z : Value) (us : List Value), us.length = ks.length → BindsTo s fd ⟨[z], ks.zip us⟩ (ps.zip (z :: gU us))) (hg : Gl X x) (hm : X.mg x = some (.ref C)) (hkw : PK X kws tk)
    (hrel : ∀ {zs : List V} {us : List Value}, Vals zs us → Vals (gV zs) (gU us)) (hlen : ∀ {σ : L2.St} {H : Hp} {Q : List V → Hp → Prop}, tk σ H Q → tk σ H fun zs H' => zs.length = ks.length ∧ Q zs H')
    (hall : (backToKw pos (keywordEach kws X.env)).all (·.1.isSome) = true := by rfl) (hks : (backToKw pos (keywordEach kws X.env)).filterMap (·.1) = ks := by rfl) (hdb : (x == ("__debug__" : Str)) = false := by decide)
    (hpl : ((backTo pos (starEach [] X.env)).any (·.1) || (backToKw pos (keywordEach kws X.env)).any (·.1.isNone)) = false := by rfl) :
    PE X (.Call (.Name x p) [] kws pos) (tErrK C sp gV tk) := by
  constructor
  intro pins s σ H Q I h
  apply wpAny_Call_Name_kw
  refine ld_glob I hg hm ?_ hdb
  refine PySem.W.callWith_KW0 (h₀ := X.base) I.ok.mod.kin T.keep hall ?_ hpl
  refine thn (hkw.run pos pins s σ H _ I (hlen h)) ?_
  rintro ws s2 ⟨zs, H2, I2, rz, lz, q⟩
  refine ⟨I2.kIn, ?_⟩
  rw [hks]
  exact run_err (us := []) T iC tI F1 hr (fun s' z _ => hb s' z ws (by rw [← Paired.length rz]; exact lz)) (Nat.zero_le _) I2 (hrel rz) q
end
/-- C() of an error class without an __init__ of its own -/
theorem pe_err0 {X : Cx} {C : Addr} {b : EB} {x : Str} {p pos : Pos} (q : PySem.W.excIn X.K C b.tail b.new = true) (gC : X.mg x = some (.ref C)) (kC : PySem.W.keepIn X.K (.ref C) = true) (hg : Gl X x) (hdb : (x == ("__debug__" : Str)) = false := by decide) :
    PE X (.Call (.Name x p) [] [] pos) (fun σ H Q => ∀ a, H a = none → Q (.ref a) (upd H a (exo a C none))) := by
  constructor
  intro pins s σ H Q I h
  apply wpAny_Call_Name_kw
  refine ld_glob I hg gC ?_ hdb
  apply PySem.W.callWith_K0 I.kIn kC
  obtain ⟨i, FB⟩ := b.base
  rcases s with ⟨hp, g, d, t, os⟩
  obtain ⟨bm, N, nm, qn, bs, hdct, sn, sub, ab, col, dd, k0, k1, k2, k3, k5, mN, hC, hN, hni, T⟩ := exc_obj I.kIn q
  refine wpAny_call_exc_subT FB T hC hN hni (fun h' a hm => ?_) (by show 0 ≤ sizeLine; exact Nat.zero_le _)
  have hn : H a = none := I.hok.gone hm.new
  obtain ⟨t, ht, _, _⟩ := hm.there
  exact ⟨.ref a, upd H a (exo a C none), I.laidN hm.keeps hm.new hn (exo_ok ht), rfl, h a hn⟩

/-! ### an __init__ that stores its parameters -/
def spInit (C : Addr) (fl : List Str) : Sp := fun vs H Q _ => ∃ (a : Addr) (ys : List V), vs = .ref a :: ys ∧ ys.length = fl.length ∧ H a = some (exo a C none) ∧
  ∀ dx H', H dx = none → dx ≠ a → H' a = some (exo a C (some dx)) → H' dx = some (exd dx (fl.zip ys).reverse) → (∀ b o, H b = some o → b ≠ a → H' b = some o) → Q .non H'
section
variable {P : Program} {w : World} {K : PySem.W.Frag} {mg : Str → Option Value} {base : Heap} {st : Stmt} {qual f1 f2 f3 : Str} {C fI : Addr} {b : EB} {fd : FuncData} {q1 q2 q3 q4 r1 r2 r3 r4 z1 z2 z3 z4 : Pos}
theorem swap_name {n : Str} {pp : Pos} {o : Option Expr} {l : Nat} {env : Env} : swapsWith (.Name n pp) o l env = pure false := by rfl
theorem ok_init1 (F : L2.Fun K "__init__" qual st fI fd) (T : XC K C b) (n1 : PySem.W.findIn K (.ref C) f1 = some none) (hb : defBody st = [.Assign [.Attribute (.Name "self" q1) f1 q2] (.Name f1 q3) q4])
    (S : FnScope ["self", f1] ["self", f1] (defScope st)) (v0 : (defScope st).names.lookup ("self" : Str) = some .local) (v1 : (defScope st).names.lookup f1 = some .local) (d1 : (f1 == ("__debug__" : Str)) = false) (c1 : (f1 == ("__classdict__" : Str)) = false) :
    FnOk P w K mg base CX0 1 fI fd ["self", f1] (spInit C [f1]) := by
  refine F.ok S (fun vs H Q E h => ?_) (fun cdv A outer s H vs Q E hr h => ?_)
  · obtain ⟨a, ys, rfl, l, _⟩ := h
    exact congrArg Nat.succ l
  · obtain ⟨a, ys, rfl, l, ha, k⟩ := h
    rw [hb]
    match ys, l with
    | [y], _ =>
      refine ⟨_, pss_one (ps_put (pe_var (i := 0) rfl (.inl v0)) (pe_var (i := 1) rfl (.inl v1) d1 c1) swap_name), ?_⟩
      refine ⟨y, rfl, .ref a, rfl, a, C, b, rfl, T, n1, .inl ⟨ha, fun dx hd hne => ?_⟩⟩
      exact k dx _ hd hne upd_same (by rw [upd_ne hne]; exact upd_same) fun c o e hc => by rw [upd_ne hc, upd_ne (ne_of_none e hd)]; exact e
theorem ok_init2 (F : L2.Fun K "__init__" qual st fI fd) (T : XC K C b) (n1 : PySem.W.findIn K (.ref C) f1 = some none) (n2 : PySem.W.findIn K (.ref C) f2 = some none)
    (hb : defBody st = [.Assign [.Attribute (.Name "self" q1) f1 q2] (.Name f1 q3) q4, .Assign [.Attribute (.Name "self" r1) f2 r2] (.Name f2 r3) r4])
    (S : FnScope ["self", f1, f2] ["self", f1, f2] (defScope st)) (v0 : (defScope st).names.lookup ("self" : Str) = some .local) (v1 : (defScope st).names.lookup f1 = some .local) (v2 : (defScope st).names.lookup f2 = some .local)
    (d1 : (f1 == ("__debug__" : Str)) = false) (c1 : (f1 == ("__classdict__" : Str)) = false) (d2 : (f2 == ("__debug__" : Str)) = false) (c2 : (f2 == ("__classdict__" : Str)) = false) :
    FnOk P w K mg base CX0 1 fI fd ["self", f1, f2] (spInit C [f1, f2]) := by
  refine F.ok S (fun vs H Q E h => ?_) (fun cdv A outer s H vs Q E hr h => ?_)
  · obtain ⟨a, ys, rfl, l, _⟩ := h
    exact congrArg Nat.succ l
  · obtain ⟨a, ys, rfl, l, ha, k⟩ := h
    rw [hb]
    match ys, l with
    | [y, z], _ =>
      refine ⟨_, pss_cons (ps_put (pe_var (i := 0) rfl (.inl v0)) (pe_var (i := 1) rfl (.inl v1) d1 c1) swap_name) (pss_one (ps_put (pe_var (i := 0) rfl (.inl v0)) (pe_var (i := 2) rfl (.inl v2) d2 c2) swap_name)), ?_⟩
      refine ⟨y, rfl, .ref a, rfl, a, C, b, rfl, T, n1, .inl ⟨ha, fun dx hd hne => ?_⟩⟩
      refine ⟨z, rfl, .ref a, rfl, a, C, b, rfl, T, n2, .inr ⟨dx, _, upd_same, (by rw [upd_ne hne]; exact upd_same), (by show 1 ≤ 900; decide), ?_⟩⟩
      exact k dx _ hd hne (by rw [upd_ne hne.symm]; exact upd_same) upd_same fun c o e hc => by rw [upd_ne (ne_of_none e hd), upd_ne hc, upd_ne (ne_of_none e hd)]; exact e
theorem ok_init3 (F : L2.Fun K "__init__" qual st fI fd) (T : XC K C b) (n1 : PySem.W.findIn K (.ref C) f1 = some none) (n2 : PySem.W.findIn K (.ref C) f2 = some none) (n3 : PySem.W.findIn K (.ref C) f3 = some none)
    (hb : defBody st = [.Assign [.Attribute (.Name "self" q1) f1 q2] (.Name f1 q3) q4, .Assign [.Attribute (.Name "self" r1) f2 r2] (.Name f2 r3) r4, .Assign [.Attribute (.Name "self" z1) f3 z2] (.Name f3 z3) z4])
    (S : FnScope ["self", f1, f2, f3] ["self", f1, f2, f3] (defScope st)) (v0 : (defScope st).names.lookup ("self" : Str) = some .local) (v1 : (defScope st).names.lookup f1 = some .local) (v2 : (defScope st).names.lookup f2 = some .local) (v3 : (defScope st).names.lookup f3 = some .local)
    (d1 : (f1 == ("__debug__" : Str)) = false) (c1 : (f1 == ("__classdict__" : Str)) = false) (d2 : (f2 == ("__debug__" : Str)) = false) (c2 : (f2 == ("__classdict__" : Str)) = false) (d3 : (f3 == ("__debug__" : Str)) = false) (c3 : (f3 == ("__classdict__" : Str)) = false) :
    FnOk P w K mg base CX0 1 fI fd ["self", f1, f2, f3] (spInit C [f1, f2, f3]) := by
  refine F.ok S (fun vs H Q E h => ?_) (fun cdv A outer s H vs Q E hr h => ?_)
  · obtain ⟨a, ys, rfl, l, _⟩ := h
    exact congrArg Nat.succ l
  · obtain ⟨a, ys, rfl, l, ha, k⟩ := h
    rw [hb]
    match ys, l with
    | [y, z, u], _ =>
      refine ⟨_, pss_cons (ps_put (pe_var (i := 0) rfl (.inl v0)) (pe_var (i := 1) rfl (.inl v1) d1 c1) swap_name) (pss_cons (ps_put (pe_var (i := 0) rfl (.inl v0)) (pe_var (i := 2) rfl (.inl v2) d2 c2) swap_name)
        (pss_one (ps_put (pe_var (i := 0) rfl (.inl v0)) (pe_var (i := 3) rfl (.inl v3) d3 c3) swap_name))), ?_⟩
      refine ⟨y, rfl, .ref a, rfl, a, C, b, rfl, T, n1, .inl ⟨ha, fun dx hd hne => ?_⟩⟩
      refine ⟨z, rfl, .ref a, rfl, a, C, b, rfl, T, n2, .inr ⟨dx, _, upd_same, (by rw [upd_ne hne]; exact upd_same), (by show 1 ≤ 900; decide), ?_⟩⟩
      refine ⟨u, rfl, .ref a, rfl, a, C, b, rfl, T, n3, .inr ⟨dx, _, (by rw [upd_ne hne.symm]; exact upd_same), upd_same, (by show 2 ≤ 900; decide), ?_⟩⟩
      exact k dx _ hd hne (by rw [upd_ne hne.symm, upd_ne hne.symm]; exact upd_same) upd_same fun c o e hc => by rw [upd_ne (ne_of_none e hd), upd_ne (ne_of_none e hd), upd_ne hc, upd_ne (ne_of_none e hd)]; exact e
end
/-- an error made, told in whole: what was tracked stands, its fields are as its __init__ stores them -/
theorem init_made {C : Addr} {fl : List Str} {H1 : Hp} {Q : VK} {x : Addr} {ys : List V} (hx : H1 x = none) (hl : ys.length = fl.length) (q : ∀ (e : Addr) (H' : Hp), Same H1 H' → H1 e = none → ErrAt H' e C (fl.zip ys).reverse → Q (.ref e) H') :
    spInit C fl (.ref x :: ys) (upd H1 x (exo x C none)) (fun v H2 => v = .non ∧ Q (.ref x) H2) E0 := by
  refine ⟨x, ys, rfl, hl, upd_same, fun dx H' hd hne ha hdx kp => ⟨rfl, q x H' (fun b o e => ?_) hx (.inr ⟨dx, ha, hdx⟩)⟩⟩
  have hb : b ≠ x := ne_of_none e hx
  exact kp b o (by rw [upd_ne hb]; exact e) hb
end GL
set_option maxHeartbeats 4000000
namespace GL
open PySem PySem.Spec PyProof.Rows L2
theorem same_sqT {K : PySem.W.Frag} {H H' : Hp} {a : Addr} {xs : List V} (e : Same H H') (h : SqT K H a xs) : SqT K H' a xs := by
  rcases h with (h | ⟨o, h⟩) | h
  · exact .inl (.inl (e _ _ h))
  · exact .inl (.inr ⟨o, e _ _ h⟩)
  · exact .inr h
mutual
theorem Dq.same {K : PySem.W.Frag} {H H' : Hp} (e : Same H H') : ∀ {v : V} {d : PyData}, Dq K H v d → Dq K H' v d
  | _, _, .non => .non
  | _, _, .bl b => .bl b
  | _, _, .int i => .int i
  | _, _, .str x => .str x
  | _, _, .lst h a => .lst (e.seq h) (DqAll.same e a)
  | _, _, .tup h a => .tup (same_sqT e h) (DqAll.same e a)
  | _, _, .dct h a => .dct (e _ _ h) (DqKv.same e a)
theorem DqAll.same {K : PySem.W.Frag} {H H' : Hp} (e : Same H H') : ∀ {vs : List V} {ds : List PyData}, DqAll K H vs ds → DqAll K H' vs ds
  | _, _, .nil => .nil
  | _, _, .cons a b => .cons (Dq.same e a) (DqAll.same e b)
theorem DqKv.same {K : PySem.W.Frag} {H H' : Hp} (e : Same H H') : ∀ {kvs : List (Key × V)} {ps : List (PyData × PyData)}, DqKv K H kvs ps → DqKv K H' kvs ps
  | _, _, .nil => .nil
  | _, _, .consI a b => .consI (Dq.same e a) (DqKv.same e b)
  | _, _, .consS a b => .consS (Dq.same e a) (DqKv.same e b)
end
theorem paired_rev {α β : Type} {R : α → β → Prop} : ∀ {xs : List α} {ys : List β}, Paired R xs ys → Paired R xs.reverse ys.reverse := by
  have app : ∀ {xs us : List α} {ys ws : List β}, Paired R xs ys → Paired R us ws → Paired R (xs ++ us) (ys ++ ws) := by
    intro xs us ys ws h k
    induction h with
    | nil => exact k
    | cons r _ ih => exact .cons r ih
  intro xs ys h
  induction h with
  | nil => exact .nil
  | cons r _ ih =>
    rw [List.reverse_cons, List.reverse_cons]
    exact app ih (.cons r .nil)
theorem same_new {H : Hp} {p : Addr} {o : HO} (h : H p = none) : Same H (upd H p o) := fun b u e => by
  rw [upd_ne (ne_of_none e h)]
  exact e
theorem del_le {H : Hp} {p : Addr} : Same (del H p) H := fun b o e => by
  by_cases h : b = p
  · rw [h, del_same] at e
    cases e
  · rwa [del_ne h] at e
theorem del_but {H H' : Hp} {p : Addr} (k : ∀ b o, H b = some o → b ≠ p → H' b = some o) : Same (del H p) (del H' p) := fun b o e => by
  by_cases h : b = p
  · rw [h, del_same] at e
    cases e
  · rw [del_ne h] at e ⊢
    exact k b o e h
/-! ### a list comprehension whose element leaves what was tracked as it was -/
theorem take_ext {α : Type} : ∀ {l : List α} {i : Nat} {x : α}, l[i]? = some x → l.take (i + 1) = l.take i ++ [x]
  | a :: l, 0, x, h => by
    cases Option.some.inj h
    rfl
  | a :: l, i + 1, x, h => by
    have ih := take_ext (l := l) (i := i) (x := x) (by simpa using h)
    rw [List.take_succ_cons, ih, List.take_succ_cons]
    rfl
section
variable {K : PySem.W.Frag} {te : TE} {σ : L2.St} {j : Nat} {H1 : Hp} {D a : Addr} {xs : List V} {val : V → V} {Qd : Hp → Prop}
theorem lc_same (hS : SqL K H1 a xs) (hD : H1 D = none) (hl : xs.length < 1000000) (hw : ∀ x, wipe ((wipe σ [j]).set j (some x)) [j] = wipe σ [j])
    (hs : ∀ (i : Nat) (x : V) (H' : Hp) (Q : VK), xs[i]? = some x → Same H1 H' → (∀ H2, Same H' H2 → Q (val x) H2) → te ((wipe σ [j]).set j (some x)) H' Q) (hd : ∀ H', Same H1 H' → H' D = some (.lst (xs.map val)) → Qd H') :
    ∃ W : Nat → Nat → Hp → Prop, (∃ m, W 0 m (upd H1 D (.lst []))) ∧ ∀ i m H, W i m H →
      ((Itl K a).stop i H ∧ Qd H) ∨ ((Itl K a).go i H ∧ ∃ Nx : Hp → Prop, (∀ H', Nx H' → ∃ m', m' < m ∧ W (i + 1) m' H') ∧ ∀ x H', (Itl K a).yld i H x H' → gName j x (wipe σ [j]) H' fun σ2 H2 => wipe σ2 [j] = wipe σ [j] ∧ tYes σ2 H2 fun b H3 =>
        if b = true then te σ2 H3 fun y H4 => ∃ acc, H4 D = some (.lst acc) ∧ acc.length < sizeLine ∧ Nx (upd H4 D (.lst (acc ++ [y]))) else Nx H3) := by
  refine lc_list (K := K) (a := a) (xs := xs) (fun i H => H D = some (.lst ((xs.take i).map val)) ∧ Same H1 H) ⟨upd_same, same_new hD⟩ (fun i H _ ⟨_, s⟩ => s.seq hS) ?_ ?_
  · rintro i x H hi ⟨hd', s⟩
    refine ⟨hw x, ?_⟩
    show te (List.set (wipe σ [j]) j (some x)) H (fun y H4 => ∃ acc, H4 D = some (.lst acc) ∧ acc.length < sizeLine ∧ (upd H4 D (.lst (acc ++ [y])) D = some (.lst ((xs.take (i + 1)).map val)) ∧ Same H1 (upd H4 D (.lst (acc ++ [y])))))
    refine hs i x H _ hi s fun H2 s2 => ⟨_, s2 _ _ hd', ?_, ?_, fun b o e => ?_⟩
    · rw [List.length_map, List.length_take, sizeLine_eq]
      omega
    · rw [take_ext hi, List.map_append, upd_same]
      rfl
    · rw [upd_ne (ne_of_none e hD)]
      exact s2 _ _ (s _ _ e)
  · rintro H ⟨hd', s⟩
    rw [List.take_length] at hd'
    exact hd H s hd'
theorem lc_sameR {lo : Int} {n : Nat} {val : Int → V} (hD : H1 D = none) (hl : n < 1000000) (hw : ∀ x, wipe ((wipe σ [j]).set j (some x)) [j] = wipe σ [j])
    (hs : ∀ (i : Nat) (H' : Hp) (Q : VK), i < n → Same H1 H' → (∀ H2, Same H' H2 → Q (val (lo + i)) H2) → te ((wipe σ [j]).set j (some (.int (lo + i)))) H' Q) (hd : ∀ H', Same H1 H' → H' D = some (.lst ((List.range n).map fun i => val (lo + (i : Nat)))) → Qd H') :
    ∃ W : Nat → Nat → Hp → Prop, (∃ m, W 0 m (upd H1 D (.lst []))) ∧ ∀ i m H, W i m H →
      ((Itr lo n).stop i H ∧ Qd H) ∨ ((Itr lo n).go i H ∧ ∃ Nx : Hp → Prop, (∀ H', Nx H' → ∃ m', m' < m ∧ W (i + 1) m' H') ∧ ∀ x H', (Itr lo n).yld i H x H' → gName j x (wipe σ [j]) H' fun σ2 H2 => wipe σ2 [j] = wipe σ [j] ∧ tYes σ2 H2 fun b H3 =>
        if b = true then te σ2 H3 fun y H4 => ∃ acc, H4 D = some (.lst acc) ∧ acc.length < sizeLine ∧ Nx (upd H4 D (.lst (acc ++ [y]))) else Nx H3) := by
  refine lc_range (lo := lo) (n := n) (fun i H => H D = some (.lst ((List.range i).map fun i => val (lo + (i : Nat)))) ∧ Same H1 H) ⟨upd_same, same_new hD⟩ ?_ ?_
  · rintro i H hi ⟨hd', s⟩
    refine ⟨hw _, ?_⟩
    show te (List.set (wipe σ [j]) j (some (V.int (lo + i)))) H (fun y H4 => ∃ acc, H4 D = some (.lst acc) ∧ acc.length < sizeLine ∧ (upd H4 D (.lst (acc ++ [y])) D = some (.lst ((List.range (i + 1)).map fun i => val (lo + (i : Nat)))) ∧ Same H1 (upd H4 D (.lst (acc ++ [y])))))
    refine hs i H _ hi s fun H2 s2 => ⟨_, s2 _ _ hd', ?_, ?_, fun b o e => ?_⟩
    · rw [List.length_map, List.length_range, sizeLine_eq]
      omega
    · rw [List.range_succ, List.map_append, upd_same]
      rfl
    · rw [upd_ne (ne_of_none e hD)]
      exact s2 _ _ (s _ _ e)
  · rintro H ⟨hd', s⟩
    exact hd H s hd'
end
end GL
set_option maxHeartbeats 4000000
/-! Own operators of own instances. -/
namespace PySem
namespace GO
open PySem.W PySem.Calls PyProof.Rows PySem.HandSPX Builtin
section
variable {prog : Program} {w : World} {A : Around} {E : Value → Shared → Prop} {hp : Heap} {g : Array GenState} {d : Drawn} {t : Nat} {os : OsState} {K : W.Frag} {x y C f : Addr} {ox oy : Obj} {od oe : Option Obj} {b : Value} {op : Operator} {Q : Value → Shared → Prop} {cd : ClassData} {rest : List Value}
def Held (p : Prop) : Prop := p
/-- a method of an own class, tried -/
theorem try_own {nm : Str} {Q : Option Value → Shared → Prop} (X : K.In hp) (I : InstAt hp x ox C od) (hf : findIn K (.ref C) nm = some (some (.ref f))) (tf : typeIn K (.ref f) = some (.type "function"))
    (h : Held (wpAny (model prog w) A (call (.ref f) [.ref x, b]) (W.CmpBack fun v => Q (some v)) E ⟨hp, g, d, t, os⟩)) : wpAny (model prog w) A (tryMethod (.ref x) nm b) Q E ⟨hp, g, d, t, os⟩ := by
  unfold tryMethod
  apply wpAny_bind
  refine special_fn (s := ⟨hp, g, d, t, os⟩) X I hf tf (wpAny_mono h (fun v s' z => ?_) fun _ _ z => z)
  cases v <;> first | exact wpAny_pure z | exact z.elim
/-- a + b, both of one class -/
theorem bin_same (X : K.In hp) (I : InstAt hp x ox C od) (J : InstAt hp y oy C oe) (hcd : clsIn K C = some cd) (hm : cd.mro = .ref C :: rest) (hf : findIn K (.ref C) (dunder op.info.2) = some (some (.ref f))) (tf : typeIn K (.ref f) = some (.type "function"))
    (h : wpAny (model prog w) A (call (.ref f) [.ref x, .ref y]) (W.CmpBack Q) E ⟨hp, g, d, t, os⟩) : wpAny (model prog w) A (binaryOp op (.ref x) (.ref y)) Q E ⟨hp, g, d, t, os⟩ := by
  have left := fills_K (M := model prog w) (nm := op.info.2) X hcd hm hf
  unfold binaryOp
  generalize op.info = z at *
  obtain ⟨sym, nm⟩ := z
  apply wpAny_holding
  unfold binaryOp1
  apply wpAny_bind
  apply wpAny_bind
  apply I.type.at
  apply wpAny_bind
  apply J.type.at
  apply wpAny_bind
  apply left.at
  dsimp only
  rw [if_pos (beq_self_eq_true _)]
  repeat (first | with_reducible refine try_own X I hf tf ?_ | wp_step)
  refine wpAny_mono h (fun v s' z => ?_) fun _ _ z => z
  cases v <;> first | exact wpAny_pure (wpAny_pure z) | exact z.elim
/-- a + n, n a whole number -/
theorem bin_int {n : Int} {k : Tok} {ia ir : String} (X : K.In hp) (I : InstAt hp x ox C od) (hcd : clsIn K C = some cd) (hm : cd.mro = .ref C :: rest) (hf : findIn K (.ref C) (dunder op.info.2) = some (some (.ref f))) (hr : findIn K (.ref C) (dunderR op.info.2) = some none) (tf : typeIn K (.ref f) = some (.type "function"))
    (fa : findIn K (.type "int") (dunder op.info.2) = some (some (.builtin ia))) (fr : findIn K (.type "int") (dunderR op.info.2) = some (some (.builtin ir))) (sq : isSeqSlot (some (.builtin ia)) = false) (sub : subIn K (.type "int") (.ref C) = some false)
    (h : wpAny (model prog w) A (call (.ref f) [.ref x, .int n k]) (W.CmpBack Q) E ⟨hp, g, d, t, os⟩) : wpAny (model prog w) A (binaryOp op (.ref x) (.int n k)) Q E ⟨hp, g, d, t, os⟩ := by
  have left := fills_K (M := model prog w) (nm := op.info.2) X hcd hm hf
  have l1 := looks_findIn (M := model prog w) X hf
  have l2 := looks_findIn (M := model prog w) X hr
  have l3 := looks_findIn (M := model prog w) X fa
  have l4 := looks_findIn (M := model prog w) X fr
  have l5 := looks_subIn (M := model prog w) X sub
  unfold binaryOp
  generalize op.info = z at *
  obtain ⟨sym, nm⟩ := z
  apply wpAny_holding
  unfold binaryOp1 numberSlotInPython fillsNumberSlot
  apply wpAny_bind
  apply wpAny_bind
  apply I.type.at
  apply wpAny_bind
  apply wpAny_pure
  apply wpAny_bind
  apply left.at
  repeat (first | with_reducible refine try_own X I hf tf ?_ | with_reducible refine l1.at ?_ | with_reducible refine l2.at ?_ | with_reducible refine l3.at ?_ | with_reducible refine l4.at ?_ | with_reducible refine l5.at ?_ | wp_step)
  refine wpAny_mono h (fun v s' z => ?_) fun _ _ z => z
  cases v <;> first | exact wpAny_pure (wpAny_pure z) | exact z.elim
/-- -a -/
theorem neg_own (X : K.In hp) (I : InstAt hp x ox C od) (hf : findIn K (.ref C) "__neg__" = some (some (.ref f))) (tf : typeIn K (.ref f) = some (.type "function"))
    (h : wpAny (model prog w) A (call (.ref f) [.ref x]) Q E ⟨hp, g, d, t, os⟩) : wpAny (model prog w) A (unaryOp .USub (.ref x)) Q E ⟨hp, g, d, t, os⟩ := by
  unfold unaryOp
  apply wpAny_holding
  dsimp only
  rw [if_neg (by decide)]
  apply wpAny_bind
  exact special_fn (s := ⟨hp, g, d, t, os⟩) X I hf tf (wpAny_mono h (fun v s' z => wpAny_pure z) fun _ _ z => z)
end
end GO
end PySem
set_option maxHeartbeats 4000000
namespace PySem
namespace GO
open PySem.W PySem.Calls PyProof.Rows PySem.HandSPX Builtin
section
variable {prog : Program} {w : World} {A : Around} {E : Value → Shared → Prop} {hp : Heap} {g : Array GenState} {d : Drawn} {t : Nat} {os : OsState} {K : W.Frag} {x y C f : Addr} {ox oy : Obj} {od oe : Option Obj} {b tb : Value} {Q : Value → Shared → Prop}
theorem ifb {fv : Value} {nm : Str} {Q : Option Value → Shared → Prop} (X : K.In hp) (I : InstAt hp x ox C od) (hf : findIn K (.ref C) nm = some (some fv)) (hb : Looks (model prog w) hp (bindSpecial fv (.ref x)) (fv, [.ref x]))
    (h : wpAny (model prog w) A (call fv [.ref x, b]) (fun v => Q (some v)) E ⟨hp, g, d, t, os⟩) : wpAny (model prog w) A (callSpecialIfBound? (.ref x) nm [b]) Q E ⟨hp, g, d, t, os⟩ := by
  have l1 := looks_findIn (M := model prog w) X hf
  unfold callSpecialIfBound? bindSpecialIfBound? specialOf
  apply wpAny_holding
  apply wpAny_bind
  apply wpAny_bind
  apply wpAny_bind
  apply I.type.at
  apply l1.at
  dsimp only
  apply wpAny_bind
  refine wpAny_askSetting ?_
  have go : ∀ {E' : Value → Shared → Prop}, wpAny (model prog w) A (do let z ← bindSpecial fv (.ref x); pure (some z)) (fun a s' => wpAny (model prog w) A (match a with
        | some (g, first) => do
          let z ← call g (first ++ [b])
          pure (some z)
        | x => pure none) Q E s') E' ⟨hp, g, d, t, os⟩ := by
    intro E'
    apply wpAny_bind
    apply hb.at
    apply wpAny_pure
    dsimp only [List.cons_append, List.nil_append]
    apply wpAny_bind
    exact wpAny_mono h (fun v s' z => wpAny_pure z) fun _ _ z => z
  split
  · exact go
  · exact wpAny_tryCatch go
theorem try_c {fv : Value} {nm : Str} {Q : Option Value → Shared → Prop} (X : K.In hp) (I : InstAt hp x ox C od) (hf : findIn K (.ref C) nm = some (some fv)) (hb : Looks (model prog w) hp (bindSpecial fv (.ref x)) (fv, [.ref x]))
    (h : wpAny (model prog w) A (call fv [.ref x, b]) (W.CmpBack fun v => Q (some v)) E ⟨hp, g, d, t, os⟩) : wpAny (model prog w) A (tryCompare (.ref x) nm b) Q E ⟨hp, g, d, t, os⟩ := by
  unfold tryCompare
  apply wpAny_bind
  refine ifb X I hf hb (wpAny_mono h (fun v s' z => ?_) fun _ _ z => z)
  cases v <;> first | exact wpAny_pure z | exact z.elim
/-- a == b, a != b, by the class's method of this name -/
theorem cmp_any {op : CmpOp} {fv : Value} (hop : op = .Eq ∨ op = .NotEq) (hu : A.units < cLine) (X : K.In hp) (I : InstAt hp x ox C od) (hb : Looks (model prog w) hp (typeOf b) tb) (nf : notFirst K C tb = true) (he : findIn K (.ref C) (cmpInfo op).2.1 = some (some fv))
    (hbi : Looks (model prog w) hp (bindSpecial fv (.ref x)) (fv, [.ref x]))
    (h : wpAny (model prog w) A (call fv [.ref x, b]) (W.CmpBack Q) E ⟨hp, g, d, t, os⟩) : wpAny (model prog w) A (richCompare op (.ref x) b) Q E ⟨hp, g, d, t, os⟩ := by
  have no : oneThing? op (.ref x) b = none := by rcases hop with rfl | rfl <;> rfl
  unfold richCompare
  apply wpAny_holding
  apply wpAny_bind
  refine wpAny_cRoomFor hu ?_
  rw [no]
  dsimp only
  generalize hi : cmpInfo op = z at *
  obtain ⟨sym, nf', nr⟩ := z
  apply wpAny_bind
  apply I.type.at
  apply wpAny_bind
  apply hb.at
  unfold notFirst at nf
  have go : wpAny (model prog w) A (tryCompare (.ref x) nf' b) (fun o s' => o.isSome = true ∧ ∀ v, o = some v → Q v s') E ⟨hp, g, d, t, os⟩ := by
    refine try_c X I he hbi (wpAny_mono h (fun v s' z => ?_) fun _ _ z => z)
    cases v <;> first | exact ⟨rfl, fun _ q => by cases q; exact z⟩ | exact z.elim
  have fin : ∀ {k : Option Value → Sem Value}, (∀ v, k (some v) = pure v) → wpAny (model prog w) A (tryCompare (.ref x) nf' b >>= k) Q E ⟨hp, g, d, t, os⟩ := by
    intro k hk
    apply wpAny_bind
    refine wpAny_mono go (fun o s' z => ?_) fun _ _ z => z
    obtain ⟨q, z⟩ := z
    cases o with
    | none => cases q
    | some v =>
      rw [hk]
      exact wpAny_pure (z v rfl)
  split
  · rename_i ne
    simp only [Bool.or_eq_true, beq_iff_eq] at nf
    rcases nf with rfl | q
    · exact absurd ne (by simp)
    · apply wpAny_bind
      apply (looks_subIn X q).at
      dsimp only [Bool.false_eq_true, if_false]
      exact fin fun v => rfl
  · apply wpAny_bind
    apply wpAny_pure
    exact fin fun v => rfl
/-- the entry of object.__ne__ -/
theorem ne_entry (hu : A.units < cLine) (X : K.In hp) (I : InstAt hp x ox C od) (he : findIn K (.ref C) "__eq__" = some (some (.ref f))) (tf : typeIn K (.ref f) = some (.type "function")) {Q : PySem.Fin → Shared → Prop}
    (h : wpAny (model prog w) A (call (.ref f) [.ref x, b]) (fun v s' => ∃ k, v = .bool k ∧ Q (.done (.ret (.bool !k))) s') E ⟨hp, g, d, t, os⟩) :
    wpAny (model prog w) A (Builtin.«object.__ne__» { pos := [.ref x, b] }) Q E ⟨hp, g, d, t, os⟩ := by
  unfold Builtin.«object.__ne__»
  apply wpAny_bind
  have e : slotArgs "__ne__" 1 { pos := [.ref x, b] } = pure (.ref x, [b]) := rfl
  rw [e]
  apply wpAny_pure
  dsimp only
  apply wpAny_bind
  refine wpAny_cRoomFor hu ?_
  apply wpAny_bind
  refine ifb X I he (bind_fn X _ tf) (wpAny_mono h (fun v s' z => ?_) fun _ _ z => z)
  obtain ⟨k, rfl, q⟩ := z
  dsimp only
  apply wpAny_bind
  refine wpAny_truthy_bool ?_
  exact wpAny_pure q
/-- a != b, by an own __eq__ -/
theorem ne_own (hu : A.units + 1 < cLine) (X : K.In hp) (I : InstAt hp x ox C od) (hb : Looks (model prog w) hp (typeOf b) tb) (nf : notFirst K C tb = true) (hn : findIn K (.ref C) "__ne__" = some (some (.builtin "object.__ne__"))) (he : findIn K (.ref C) "__eq__" = some (some (.ref f)))
    (tf : typeIn K (.ref f) = some (.type "function")) (ob : mroIn K C (.type "object") = some true)
    (h : wpAny (model prog w) A.in1 (call (.ref f) [.ref x, b]) (fun v s' => ∃ k, v = .bool k ∧ Q (.bool !k) s') E ⟨hp, g, d, t, os⟩) : wpAny (model prog w) A (richCompare .NotEq (.ref x) b) Q E ⟨hp, g, d, t, os⟩ := by
  refine cmp_any (.inr rfl) (by omega) X I hb nf hn ?_ ?_
  · rw [PySem.F.slot_object_ne.bind]
    exact .now
  apply wpAny_call
  refine codeAny_call_builtin (by decide +kernel) (by rfl) ?_
  refine check_slot (s := ⟨hp, g, d, t, os⟩) (owner := "object") (n := "__ne__") (by decide +kernel) (by decide +kernel) ?_ (by rfl) ?_
  · exact I.type.andThen (W.looks_mroIn X ob)
  · exact ne_entry hu X I he tf h
/-- x in a, by an own __contains__ -/
theorem in_own (X : K.In hp) (I : InstAt hp x ox C od) (hf : findIn K (.ref C) "__contains__" = some (some (.ref f))) (tf : typeIn K (.ref f) = some (.type "function")) {Q : Bool → Shared → Prop}
    (h : wpAny (model prog w) A (call (.ref f) [.ref x, b]) (fun v s' => ∃ k, v = .bool k ∧ Q k s') E ⟨hp, g, d, t, os⟩) : wpAny (model prog w) A (contains (.ref x) b) Q E ⟨hp, g, d, t, os⟩ := by
  have l1 := looks_findIn (M := model prog w) X hf
  have l2 := bind_fn (M := model prog w) X (.ref x) tf
  unfold contains
  apply wpAny_holding
  have e : stdlibNamesSay? (.ref x) b = none := rfl
  rw [e]
  dsimp only
  unfold callSpecialUnlessNone? specialOf
  apply wpAny_bind
  apply wpAny_bind
  apply I.type.at
  apply l1.at
  dsimp only
  rw [if_neg (by simp)]
  apply wpAny_bind
  apply wpAny_bind
  apply wpAny_bind
  apply I.type.at
  apply l1.at
  dsimp only
  apply wpAny_holding
  apply wpAny_bind
  apply l2.at
  dsimp only [List.cons_append, List.nil_append]
  rw [if_neg (by simp)]
  apply wpAny_bind
  refine wpAny_mono h (fun v s' z => ?_) fun _ _ z => z
  obtain ⟨k, rfl, q⟩ := z
  apply wpAny_pure
  exact wpAny_truthy_bool q
end
end GO
end PySem
set_option maxHeartbeats 4000000
/-! Own operators of own instances, as rules. -/
namespace GL
open PySem PySem.Spec PyProof.Rows L2
theorem isFn_ty {K : PySem.W.Frag} {f : Addr} (h : PySem.W.isFn K (.ref f) = true) : PySem.W.typeIn K (.ref f) = some (.type "function") := by
  unfold PySem.W.isFn at h
  exact beq_iff_eq.mp h
section
variable {X : Cx} {pins : List (Addr × Obj)} {σ : L2.St} {H : Hp} {s : Shared} {a C dx f : Addr} {fs : List (Str × V)} {x y : V} {u t v : Value} {Q : VK} {CX : CXT} {E : XK} {k : Nat} {sp : Sp}
theorem inst_of (I : Inv X pins σ H s) (e : H a = some (.ins C dx fs)) : ∃ ox od, PySem.W.InstAt s.heap a ox C od := by
  obtain ⟨mA, hO, _, hw, _, _⟩ := ins_get I.hok e
  obtain ⟨oD, _, _, hoD, _, _⟩ := hO.ns.count hw
  exact ⟨_, some oD, hO.obj, rfl, rfl, hoD⟩
theorem ty_look (I : Inv X pins σ H s) (rx : L2.RelV x u) (ty : TyX X.K H x t) : PySem.W.Looks (model X.prog X.w) s.heap (typeOf u) t := by
  obtain ⟨P, kx, p, _⟩ := kit_of I rx ty
  exact kx.ty _ _ I.kIn p
theorem notImpl (z : EP X pins σ Q v s) : PySem.W.CmpBack (EP X pins σ Q) v s := by
  have ne : v ≠ .notImplemented := by
    rintro rfl
    obtain ⟨r, H', _, rr, _⟩ := z
    cases r <;> first | exact nomatch rr | (obtain ⟨_, e⟩ := rr; exact nomatch e)
  cases v <;> first | exact z | exact absurd rfl ne
theorem Room.in1 {k : Nat} {A : Around} (r : Room (k + 1) A) : Room k A.in1 := by
  refine ⟨r.hd, ?_, ?_⟩
  · have := r.dp
    show A.depth + 3 * k + 5 < recursionLimit
    omega
  · have := r.un
    show A.units + 1 + 16 * k + 200 < cLine
    omega
theorem run_in1 {us : List Value} {vs : List V} (F : FnR X.prog X.w X.K X.mg X.base CX k f sp) (hr : Room (k + 1) X.A) (hx : Passes CX X E) (I : Inv X pins σ H s) (r : Vals vs us) (q : sp vs H Q E) :
    wpAny (model X.prog X.w) X.A.in1 (PySem.call (.ref f) us) (EP X pins σ Q) X.xe s := by
  apply wpAny_call
  refine codeAny_mono (F X.A.in1 X.stack s H us vs Q E (Room.in1 hr) { I.env0 with frames := I.env0.frames } r q) fun r' s' z => ?_
  match r', z with
  | .error er, z => exact hx pins σ H s er s' I z
  | .ok .next, z => exact False.elim z
  | .ok .brk, z => exact False.elim z
  | .ok .cont, z => exact False.elim z
  | .ok (.ret u), z => exact I.after z
end

/-! ### a + b -/
structure OwnBin (K : PySem.W.Frag) (C : Addr) (op : Operator) (f : Addr) : Prop where
  m : Meth K C (dunder op.info.2) f
  r : PySem.W.findIn K (.ref C) (dunderR op.info.2) = some none
  c : ∃ cd rest, PySem.W.clsIn K C = some cd ∧ cd.mro = .ref C :: rest
  s : PySem.W.subIn K (.type "int") (.ref C) = some false
def rOwn (C : Addr) (sp : Sp) (E : XK) : R2 := fun x y H Q => ∃ a dx fs, x = .ref a ∧ H a = some (.ins C dx fs) ∧ ((∃ b dy gs, y = .ref b ∧ H b = some (.ins C dy gs)) ∨ ∃ n, y = .int n) ∧ sp [x, y] H Q E
theorem op_own {X : Cx} {CX : CXT} {E : XK} {k : Nat} {sp : Sp} {C f : Addr} {op : Operator} (hop : op = .Add ∨ op = .Sub ∨ op = .Mult) (B : OwnBin X.K C op f) (F : FnR X.prog X.w X.K X.mg X.base CX k f sp) (hr : Room k X.A) (hx : Passes CX X E) : OpR X (binaryOp op) (rOwn C sp E) := by
  intro pins s σ H x y v u Q I rx ry h
  obtain ⟨a, dx, fs, rfl, ea, hy, q⟩ := h
  cases (show v = Value.ref a from rx)
  obtain ⟨ox, od, J⟩ := inst_of I ea
  obtain ⟨cd, rest, hcd, hm⟩ := B.c
  have z : wpAny (model X.prog X.w) X.A (PySem.call (.ref f) [.ref a, u]) (PySem.W.CmpBack (EP X pins σ Q)) X.xe s := thn (wpAny_call (run_fnR F hr hx I (Paired.cons (a := V.ref a) (b := Value.ref a) rfl (.cons ry .nil)) q)) fun _ _ => notImpl
  rcases s with ⟨hp, g, d, tk, os⟩
  rcases hy with ⟨b, dy, gs, rfl, eb⟩ | ⟨n, rfl⟩
  · cases (show u = Value.ref b from ry)
    obtain ⟨oy, oe, J'⟩ := inst_of I eb
    exact PySem.GO.bin_same I.kIn J J' hcd hm B.m.at_ (isFn_ty B.m.fn) z
  · obtain ⟨tn, rfl⟩ := (show ∃ t, u = Value.int n t from ry)
    rcases hop with rfl | rfl | rfl
    · exact PySem.GO.bin_int (ia := "int.__add__") (ir := "int.__radd__") I.kIn J hcd hm B.m.at_ B.r (isFn_ty B.m.fn) (by show fastLookup "int" _ = _; decide +kernel) (by show fastLookup "int" _ = _; decide +kernel) (by decide +kernel) B.s z
    · exact PySem.GO.bin_int (ia := "int.__sub__") (ir := "int.__rsub__") I.kIn J hcd hm B.m.at_ B.r (isFn_ty B.m.fn) (by show fastLookup "int" _ = _; decide +kernel) (by show fastLookup "int" _ = _; decide +kernel) (by decide +kernel) B.s z
    · exact PySem.GO.bin_int (ia := "int.__mul__") (ir := "int.__rmul__") I.kIn J hcd hm B.m.at_ B.r (isFn_ty B.m.fn) (by show fastLookup "int" _ = _; decide +kernel) (by show fastLookup "int" _ = _; decide +kernel) (by decide +kernel) B.s z

/-! ### -a -/
theorem un_own {X : Cx} {CX : CXT} {E : XK} {k : Nat} {sp : Sp} {C f : Addr} (B : Meth X.K C "__neg__" f) (F : FnR X.prog X.w X.K X.mg X.base CX k f sp) (hr : Room k X.A) (hx : Passes CX X E) :
    UnR X (unaryOp .USub) (fun x H Q => ∃ a dx fs, x = .ref a ∧ H a = some (.ins C dx fs) ∧ sp [x] H Q E) := by
  intro pins s σ H x v Q I rx h
  obtain ⟨a, dx, fs, rfl, ea, q⟩ := h
  cases (show v = Value.ref a from rx)
  obtain ⟨ox, od, J⟩ := inst_of I ea
  have z := wpAny_call (run_fnR F hr hx I (Paired.cons (a := V.ref a) (b := Value.ref a) rfl .nil) q)
  rcases s with ⟨hp, g, d, tk, os⟩
  exact PySem.GO.neg_own I.kIn J B.at_ (isFn_ty B.fn) z

/-! ### a == b, a != b -/
structure OwnEq (K : PySem.W.Frag) (C f : Addr) : Prop where
  m : Meth K C "__eq__" f
  n : PySem.W.findIn K (.ref C) "__ne__" = some (some (.builtin "object.__ne__"))
  o : PySem.W.mroIn K C (.type "object") = some true
def rOwnE (K : PySem.W.Frag) (C : Addr) (sp : Sp) (E : XK) : R2 := fun x y H Q => ∃ a dx fs t, x = .ref a ∧ H a = some (.ins C dx fs) ∧ TyX K H y t ∧ PySem.W.notFirst K C t = true ∧ sp [x, y] H Q E
def rOwnN (K : PySem.W.Frag) (C : Addr) (sp : Sp) (E : XK) : R2 := fun x y H Q => ∃ a dx fs t, x = .ref a ∧ H a = some (.ins C dx fs) ∧ TyX K H y t ∧ PySem.W.notFirst K C t = true ∧ sp [x, y] H (fun v H' => ∃ k, v = .bl k ∧ Q (.bl !k) H') E
theorem op_eqO {X : Cx} {CX : CXT} {E : XK} {k : Nat} {sp : Sp} {C f : Addr} (B : OwnEq X.K C f) (F : FnR X.prog X.w X.K X.mg X.base CX k f sp) (hr : Room k X.A) (hx : Passes CX X E) : OpR X (compareOp .Eq) (rOwnE X.K C sp E) := by
  intro pins s σ H x y v u Q I rx ry h
  obtain ⟨a, dx, fs, t, rfl, ea, ty, nf, q⟩ := h
  cases (show v = Value.ref a from rx)
  obtain ⟨ox, od, J⟩ := inst_of I ea
  have z : wpAny (model X.prog X.w) X.A (PySem.call (.ref f) [.ref a, u]) (PySem.W.CmpBack (EP X pins σ Q)) X.xe s := thn (wpAny_call (run_fnR F hr hx I (Paired.cons (a := V.ref a) (b := Value.ref a) rfl (.cons ry .nil)) q)) fun _ _ => notImpl
  have hu : X.A.units < cLine := by have := hr.un; omega
  have lk := ty_look I ry ty
  rcases s with ⟨hp, g, d, tk, os⟩
  show wpAny _ _ (richCompare .Eq (.ref a) u) _ _ _
  have e : PySem.W.findIn X.K (.ref C) (cmpInfo .Eq).2.1 = some (some (.ref f)) := B.m.at_
  exact PySem.GO.cmp_any (op := .Eq) (.inl rfl) hu I.kIn J lk nf e (PySem.W.bind_fn I.kIn _ (isFn_ty B.m.fn)) z
theorem op_neO {X : Cx} {CX : CXT} {E : XK} {k : Nat} {sp : Sp} {C f : Addr} (B : OwnEq X.K C f) (F : FnR X.prog X.w X.K X.mg X.base CX k f sp) (hr : Room (k + 1) X.A) (hx : Passes CX X E) : OpR X (compareOp .NotEq) (rOwnN X.K C sp E) := by
  intro pins s σ H x y v u Q I rx ry h
  obtain ⟨a, dx, fs, t, rfl, ea, ty, nf, q⟩ := h
  cases (show v = Value.ref a from rx)
  obtain ⟨ox, od, J⟩ := inst_of I ea
  have hu : X.A.units + 1 < cLine := by have := hr.un; omega
  have lk := ty_look I ry ty
  have z := run_in1 F hr hx I (Paired.cons (a := V.ref a) (b := Value.ref a) rfl (.cons ry .nil)) q
  rcases s with ⟨hp, g, d, tk, os⟩
  refine PySem.GO.ne_own hu I.kIn J lk nf B.n B.m.at_ (isFn_ty B.m.fn) B.o (thn z ?_)
  rintro v s' ⟨r, H', I', rr, k, rfl, q'⟩
  exact ⟨k, rr, V.bl !k, H', I', rfl, q'⟩

/-! ### x in a -/
theorem op_inO {X : Cx} {CX : CXT} {E : XK} {k : Nat} {sp : Sp} {C f : Addr} (B : Meth X.K C "__contains__" f) (F : FnR X.prog X.w X.K X.mg X.base CX k f sp) (hr : Room k X.A) (hx : Passes CX X E) :
    OpR X (compareOp .In) (fun x y H Q => ∃ a dx fs, y = .ref a ∧ H a = some (.ins C dx fs) ∧ sp [y, x] H (fun v H' => ∃ k, v = .bl k ∧ Q v H') E) := by
  intro pins s σ H x y v u Q I rx ry h
  obtain ⟨a, dx, fs, rfl, ea, q⟩ := h
  cases (show u = Value.ref a from ry)
  obtain ⟨ox, od, J⟩ := inst_of I ea
  have z := wpAny_call (run_fnR F hr hx I (Paired.cons (a := V.ref a) (b := Value.ref a) rfl (.cons rx .nil)) q)
  rcases s with ⟨hp, g, d, tk, os⟩
  show wpAny _ _ (do let b ← contains (.ref a) v; return Value.bool b) _ _ _
  apply wpAny_bind
  refine PySem.GO.in_own I.kIn J B.at_ (isFn_ty B.fn) (thn z ?_)
  rintro w s' ⟨r, H', I', rr, k, rfl, q'⟩
  exact ⟨k, rr, wpAny_pure ⟨V.bl k, H', I', rfl, q'⟩⟩
end GL
set_option maxHeartbeats 1000000
/-! Calls with keywords alone: of defs, methods, classmethods. -/
namespace GL
open PySem PySem.Spec PyProof.Rows L2
theorem callWith_MK0 {A : Around} {E : Value → Shared → Prop} {s : Shared} {K : PySem.W.Frag} {M : Model} {env : Env} {pos : Pos} {first : List Value} {Q : Value → Shared → Prop} {q g : Addr} {self : Value} {kws : List Keyword} (hf : PySem.W.fnIn K g = true)
    (hall : ((backToKw pos (keywordEach kws env)).all fun x => x.fst.isSome) = true)
    (h : wpAny M A (evalAll (List.map (fun x => x.snd) (backToKw pos (keywordEach kws env))))
            (fun ks s₂ => PySem.W.MethP K q g self s₂.heap ∧ wpAny M A (call (.ref q) (first ++ []) ((List.filterMap (fun x => x.fst) (backToKw pos (keywordEach kws env))).zip ks)) Q E s₂) E s)
    (hplain : (((backTo pos (starEach [] env)).any fun x => x.fst) || (backToKw pos (keywordEach kws env)).any fun x => x.fst.isNone) = false) :
    wpAny M A (callWith pos (.ref q) first (backTo pos (starEach [] env)) (backToKw pos (keywordEach kws env))) Q E s :=
  PySem.W.callWith_of hplain (PySem.W.keeps_M hf) (evalArgs_kw2_nil hall h)
section
variable {X : Cx} {CX : CXT} {E : XK} {k n : Nat} {sp : Sp} {C f g : Addr} {fd : FuncData} {ps ks : List Str} {gU : List Value → List Value → List Value} {gV : List V → List V → List V} {kws : List Keyword} {tk : TA} {ta : TE} {o : Expr} {m x : Str} {p pos apos : Pos} {pl : Sem Bool}
theorem code_kw {pins : List (Addr × Obj)} {σ : L2.St} {H : Hp} {s : Shared} {Q : VK} {us ws : List Value} {vs zs : List V} (F : FnOk X.prog X.w X.K X.mg X.base CX k f fd ps sp) (hr : Room k X.A) (hb : KBn X.K fd ps n ks gU gV) (hx : Passes CX X E) (I : Inv X pins σ H s)
    (r : Vals vs us) (rz : Vals zs ws) (l1 : vs.length = n) (l2 : zs.length = ks.length) (q : sp (gV vs zs) H Q E) :
    codeAny (model X.prog X.w) X.A (.call (.ref f) ⟨us, ks.zip ws⟩) (fun r s' => match r with | .ok (.ret v) => EP X pins σ Q v s' | .ok _ => False | .error e => X.xe e s') s := by
  refine codeAny_mono (F.run X.A X.stack s H ⟨us, ks.zip ws⟩ (gU us ws) (gV vs zs) Q E hr I.env0 (hb.to s us ws I.kIn (by rw [← Paired.length r]; exact l1) (by rw [← Paired.length rz]; exact l2)) (hb.rel r rz) q) fun r' s' z => ?_
  match r', z with
  | .error er, z => exact hx pins σ H s er s' I z
  | .ok .next, z => exact False.elim z
  | .ok .brk, z => exact False.elim z
  | .ok .cont, z => exact False.elim z
  | .ok (.ret u), z => exact I.after z
/-- f(k = v, ..) -/
theorem pe_callN0 (F : FnOk X.prog X.w X.K X.mg X.base CX k f fd ps sp) (hr : Room k X.A) (hg : Gl X x) (hm : X.mg x = some (.ref f)) (hk : PySem.W.keepIn X.K (.ref f) = true) (hb : KBn X.K fd ps 0 ks gU gV) (hx : Passes CX X E) (hkw : PK X kws tk)
    (hall : (backToKw pos (keywordEach kws X.env)).all (·.1.isSome) = true := by rfl) (hks : (backToKw pos (keywordEach kws X.env)).filterMap (·.1) = ks := by rfl) (hdb : (x == ("__debug__" : Str)) = false := by decide)
    (hpl : ((backTo pos (starEach [] X.env)).any (·.1) || (backToKw pos (keywordEach kws X.env)).any (·.1.isNone)) = false := by rfl) :
    PE X (.Call (.Name x p) [] kws pos) (fun σ H Q => tk σ H fun zs H1 => zs.length = ks.length ∧ sp (gV [] zs) H1 Q E) := by
  constructor
  intro pins s σ H Q I h
  apply wpAny_Call_Name_kw
  refine ld_glob I hg hm ?_ hdb
  refine PySem.W.callWith_KW0 (h₀ := X.base) I.ok.mod.kin hk hall ?_ hpl
  refine thn (hkw.run pos pins s σ H _ I h) ?_
  rintro ws s2 ⟨zs, H2, I2, rz, l2, q⟩
  refine ⟨I2.kIn, ?_⟩
  rw [hks]
  exact wpAny_call (code_kw F hr hb hx I2 .nil rz rfl l2 q)
/-- o.m(k = v, ..) -/
theorem pe_methN0 (he : PE X o ta) (c : Cls X.K C) (hm : Meth X.K C m f) (F : FnOk X.prog X.w X.K X.mg X.base CX k f fd ps sp) (hr : Room k X.A) (hb : KBn X.K fd ps 1 ks gU gV) (hx : Passes CX X E) (hkw : PK X kws tk)
    (hall : (backToKw pos (keywordEach kws X.env)).all (·.1.isSome) = true := by rfl) (hks : (backToKw pos (keywordEach kws X.env)).filterMap (·.1) = ks := by rfl)
    (hpl : ((backTo pos (starEach [] X.env)).any (·.1) || (backToKw pos (keywordEach kws X.env)).any (·.1.isNone)) = false := by rfl)
    (ht : eval (.Call (.Attribute o m apos) [] kws pos) X.env = (do let ov ← eval o X.env; standAt apos.atName; let (f, first) ← holding [ov] (getMethod ov m pl); callWith pos f first (backTo pos (starEach [] X.env)) (backToKw pos (keywordEach kws X.env))) := by rfl) :
    PE X (.Call (.Attribute o m apos) [] kws pos) (fun σ H Q => ta σ H fun x H1 => ∃ a dx fs, x = .ref a ∧ H1 a = some (.ins C dx fs) ∧ fs.lookup m = none ∧ tk σ H1 fun zs H2 => zs.length = ks.length ∧ sp (gV [x] zs) H2 Q E) := by
  constructor
  intro pins s σ H Q I h
  refine PySem.W.methodCall_KW (thn (he.run pins s σ H _ I h) ?_) ht
  rintro u s1 ⟨x, H1, I1, rx, a, dx, fs, rfl, ea, l, q⟩
  cases (show u = Value.ref a from rx)
  refine getmeth_ok I1 ea c hm l ?_
  refine PySem.W.callWith_KW0 (h₀ := X.base) I.ok.mod.kin hm.kp hall ?_ hpl
  refine thn (hkw.run pos pins s1 σ H1 _ I1 q) ?_
  rintro ws s2 ⟨zs, H2, I2, rz, l2, q⟩
  refine ⟨I2.kIn, ?_⟩
  rw [hks]
  exact wpAny_call (code_kw F hr hb hx I2 (Paired.cons (a := V.ref a) (b := Value.ref a) rfl .nil) rz rfl l2 q)
/-- C.m(k = v, ..), m a classmethod -/
theorem pe_cmethN0 {mc : Value} {pp : Addr} (he : PE X o ta) (r : ClX.CRead X.K C mc) (c : ClX.CMet X.K C mc m pp f) (F : FnOk X.prog X.w X.K X.mg X.base CX k f fd ps sp) (hr : Room k X.A) (hb : KBn X.K fd ps 1 ks gU gV) (hx : Passes CX X E) (hkw : PK X kws tk)
    (hall : (backToKw pos (keywordEach kws X.env)).all (·.1.isSome) = true := by rfl) (hks : (backToKw pos (keywordEach kws X.env)).filterMap (·.1) = ks := by rfl)
    (hpl : ((backTo pos (starEach [] X.env)).any (·.1) || (backToKw pos (keywordEach kws X.env)).any (·.1.isNone)) = false := by rfl)
    (ht : eval (.Call (.Attribute o m apos) [] kws pos) X.env = (do let ov ← eval o X.env; standAt apos.atName; let (f, first) ← holding [ov] (getMethod ov m pl); callWith pos f first (backTo pos (starEach [] X.env)) (backToKw pos (keywordEach kws X.env))) := by rfl) :
    PE X (.Call (.Attribute o m apos) [] kws pos) (fun σ H Q => ta σ H fun x H1 => x = .ref C ∧ tk σ H1 fun zs H2 => zs.length = ks.length ∧ sp (gV [x] zs) H2 Q E) := by
  constructor
  intro pins s σ H Q I h
  refine PySem.W.methodCall_KW (thn (he.run pins s σ H _ I h) ?_) ht
  rintro u s1 ⟨x, H1, I1, rx, rfl, q⟩
  cases (show u = Value.ref C from rx)
  refine ClX.getmethcm_ok I1 r c fun s2 I2 => ?_
  refine callWith_MK0 (K := X.K) (g := f) (self := .ref C) c.fi hall ?_ hpl
  refine thn (hkw.run pos _ s2 σ H1 _ I2 q) ?_
  rintro ws s3 ⟨zs, H3, I3, rz, l2, q⟩
  refine ⟨⟨ClX.pin_at I3, I3.kIn⟩, ?_⟩
  rw [hks]
  have z := wpAny_call (PySem.W.method_call (pos := []) (ClX.pin_at I3) (code_kw F hr hb hx I3 (Paired.cons (a := V.ref C) (b := Value.ref C) rfl .nil) rz rfl l2 q))
  exact thn z fun _ _ y => ClX.unpinE y
end
end GL
set_option maxHeartbeats 4000000
/-! The hook with defs at any place: classmethods, properties. -/
namespace GL
open PySem PySem.Spec PyProof.Rows L2
structure DefX where
  ad : PySem.W.Frag → Addr
  d : He.DefD
def fnX (K : PySem.W.Frag) (x : DefX) : He.FnW := match K.lookup (x.ad K) with
  | some ⟨_, _, .func fd, _⟩ => some (fd.name, fd.qualname, fd.params, fd.body, fd.scope, fd.globals, fd.closure, fd.builtins)
  | _ => none
def okX (K : PySem.W.Frag) (x : DefX) : Bool := PySem.W.keepIn K (.ref (x.ad K)) && match K.lookup (x.ad K) with
  | some ⟨_, _, .func fd, _⟩ => PySem.W.codeIn K fd.code x.d.qual && (He.dflB K fd.defaults (He.DefD.dvs K x.d) && He.kwdB K fd.kwdefaults (He.DefD.kws K x.d))
  | _ => false
theorem funX {K : PySem.W.Frag} {x : DefX} (e : fnX K x = x.d.val) (o : okX K x = true) : ∃ fd, FunD K x.d.name x.d.qual x.d.params x.d.body x.d.scope (He.DefD.dvs K x.d) (He.DefD.kws K x.d) (x.ad K) fd := by
  obtain ⟨kp, o⟩ := He.ba o
  unfold fnX at e
  cases q : K.lookup (x.ad K) with
  | none =>
    rw [q] at o
    cases o
  | some ob =>
    obtain ⟨oc, od, dt, osl⟩ := ob
    rw [q] at e o
    cases dt with
    | func fd =>
      obtain ⟨n1, n2, n3, n4, n5, n6, n7, n8, n9, n10, n11, n12, n13, n14, n15⟩ := fd
      have e2 : some (n1, n2, n3, n4, n5, n6, n7, n15) = some (x.d.name, x.d.qual, x.d.params, FuncBody.stmts x.d.body, x.d.scope, mainGlobals, [], builtinsNs) := e
      simp only [Option.some.injEq, Prod.mk.injEq] at e2
      obtain ⟨rfl, rfl, rfl, rfl, rfl, rfl, rfl, rfl⟩ := e2
      obtain ⟨c1, c2⟩ := He.ba o
      obtain ⟨c2, c3⟩ := He.ba c2
      exact ⟨_, ⟨oc, od, n8, n9, n10, n11, n12, n13, n14, osl, rfl, q, c1, He.dflB_ok c2, He.kwdB_ok c3⟩, kp⟩
    | _ => cases o
def SaysX (fx : List DefX) (K : PySem.W.Frag) : Prop := fx.map (fnX K) = fx.map (fun x => x.d.val) ∧ fx.all (okX K) = true
theorem SaysX.def_ {fx : List DefX} {K : PySem.W.Frag} (c : SaysX fx K) (i : Nat) {x : DefX} (h : fx[i]? = some x := by rfl) :
    ∃ fd, FunD K x.d.name x.d.qual x.d.params x.d.body x.d.scope (He.DefD.dvs K x.d) (He.DefD.kws K x.d) (x.ad K) fd := by
  refine funX ?_ (List.all_eq_true.mp c.2 x (List.mem_of_getElem? h))
  have e : (fx.map (fnX K))[i]? = (fx.map (fun x => x.d.val))[i]? := by rw [c.1]
  rw [List.getElem?_map, List.getElem?_map, h] at e
  exact Option.some.inj e
abbrev AlZ : Type := He.AlD × (List He.FnW × Bool)
def obsZ (n : Nat) (fa : List He.Fa) (fn : List He.DefD) (fx : List DefX) (ex : PySem.W.Frag → Bool) (g : Addr → Option Obj) : AlZ := (He.obsD fa fn (kOf n g), (fx.map (fnX (kOf n g)), fx.all (okX (kOf n g)) && ex (kOf n g)))
def hookZ (n : Nat) (fa : List He.Fa) (fn : List He.DefD) (fx : List DefX) (ex : PySem.W.Frag → Bool) : PySem.W.Hook where
  α := AlZ
  obs := fun s => obsZ n fa fn fx ex s.heap.get?
  val := fun _ => (He.valD fn, (fx.map (fun x : DefX => x.d.val), true))
  says := fun _ h => ∃ K : PySem.W.Frag, K.In h ∧ He.SaysD fa fn K ∧ SaysX fx K ∧ ex K = true
  of := fun _ s e => ⟨kOf n s.heap.get?, He.frG_in, congrArg (fun z : AlZ => z.1) e, ⟨congrArg (fun z : AlZ => z.2.1) e, (He.ba (show (fx.all (okX (kOf n s.heap.get?)) && ex (kOf n s.heap.get?)) = true from congrArg (fun z : AlZ => z.2.2) e)).1⟩, (He.ba (show (fx.all (okX (kOf n s.heap.get?)) && ex (kOf n s.heap.get?)) = true from congrArg (fun z : AlZ => z.2.2) e)).2⟩
  keeps := fun _ _ _ ⟨K, hK, c⟩ k => ⟨K, PySem.W.Frag.In.keeps hK k, c⟩
theorem obsZ_eq {n : Nat} {fa : List He.Fa} {fn : List He.DefD} {fx : List DefX} {ex : PySem.W.Frag → Bool} {g : Addr → Option Obj} {s : Shared} (h : ∀ a, g a = s.heap.get? a) : obsZ n fa fn fx ex g = (hookZ n fa fn fx ex).obs s := by
  have e : g = s.heap.get? := funext h
  rw [e]
  rfl
/-! ### where a classmethod's, a property's def stands -/
def wrapAt (K : PySem.W.Frag) (C : Addr) (m : Str) (T : String) : Addr := match PySem.W.recIn K (He.ma K C m) T with
  | some (.ref g :: _) => g
  | _ => 0
def propB (K : PySem.W.Frag) (C : Addr) (f : Str) : Bool := He.eqO (PySem.W.findIn K (.ref C) f) (some (some (.ref (He.ma K C f)))) && (He.eqO (PySem.W.specialIn K (.ref (He.ma K C f)) "__get__") (some (some (.builtin "property.__get__"))) &&
  (decide (PySem.W.takesIn K (.ref (He.ma K C f)) = some true) && (match PySem.W.recIn K (He.ma K C f) "property" with | some (.ref _ :: _) => true | _ => false)))
theorem propB_ok {K : PySem.W.Frag} {C : Addr} {f : Str} (h : propB K C f = true) : PropOf K C f (He.ma K C f) (wrapAt K C f "property") := by
  obtain ⟨h1, h⟩ := He.ba h
  obtain ⟨h2, h⟩ := He.ba h
  obtain ⟨h3, h4⟩ := He.ba h
  refine ⟨He.eqO_ok h1, He.eqO_ok h2, of_decide_eq_true h3, ?_⟩
  unfold wrapAt
  split at h4
  · rename_i g rest e
    exact ⟨rest, by rw [e]⟩
  · cases h4
def cmetB (K : PySem.W.Frag) (C : Addr) (mc : Value) (m : Str) : Bool := (match PySem.W.findCls K (.ref C) mc m with | some (.get (.builtin i) (.ref p) .none (.ref C')) => i == "classmethod.__get__" && (p == He.ma K C m && C' == C) | _ => false) &&
  ((match PySem.W.recIn K (He.ma K C m) "classmethod" with | some (.ref _ :: _) => true | _ => false) && PySem.W.fnIn K (wrapAt K C m "classmethod"))
theorem cmetB_ok {K : PySem.W.Frag} {C : Addr} {mc : Value} {m : Str} (h : cmetB K C mc m = true) : ClX.CMet K C mc m (He.ma K C m) (wrapAt K C m "classmethod") := by
  obtain ⟨h1, h⟩ := He.ba h
  obtain ⟨h2, h3⟩ := He.ba h
  refine ⟨?_, ?_, h3⟩
  · split at h1
    · rename_i i p C' e
      simp only [Bool.and_eq_true, beq_iff_eq] at h1
      obtain ⟨rfl, rfl, rfl⟩ := h1
      exact e
    · cases h1
  · unfold wrapAt
    split at h2
    · rename_i g rest e
      exact ⟨rest, by rw [e]⟩
    · cases h2
end GL
set_option maxHeartbeats 4000000
namespace K18
open PySem PySem.Spec PyProof.Rows L2 GL
def tp (i : Nat) : Stmt := PySem.Challenge.pw_fademodes_k13_whole_moves_behind_one_ano.main.body.getD i (.Pass ⟨0, 0, 0, 0⟩)
abbrev sIsInt : Stmt := tp 11
abbrev sIsNum : Stmt := tp 13
abbrev sRatio (j : Nat) : Stmt := inClass (tp 14) j
abbrev sRatiosOf : Stmt := tp 15
end K18
set_option maxHeartbeats 4000000
/-! The hook of GH with the interpreter's own statics among what K holds; keywords of defs without defaults. -/
namespace GL
open PySem PySem.Spec PyProof.Rows L2
/-- what an object names that a law's facts ask: a namespace's values, a def's code and defaults, a class's namespace, a record's fields -/
def refsT (o : Obj) : List Addr := match o.data with
  | .dict es _ => es.toList.flatMap fun e => He.refV e.val
  | .func fd => He.refV fd.code ++ He.refV fd.defaults
  | .cls cd => [cd.ns]
  | .fields vs => vs.toList.flatMap He.refV
  | _ => []
def nextT (g : Addr → Option Obj) (as : List Addr) : List Addr := as.flatMap fun a => match g a with
  | some o => refsT o
  | none => []
def lvls (g : Addr → Option Obj) : Nat → List Addr → List Addr
  | 0, as => as
  | n + 1, as => as ++ lvls g n (nextT g as)
def kOfT (n : Nat) (g : Addr → Option Obj) : PySem.W.Frag := He.frG g (cStatics :: sysModules :: lvls g n [mainGlobals])
def obsT (n : Nat) (fa : List He.Fa) (fn : List He.DefD) (fx : List DefX) (ex : PySem.W.Frag → Bool) (g : Addr → Option Obj) : AlZ := (He.obsD fa fn (kOfT n g), (fx.map (fnX (kOfT n g)), fx.all (okX (kOfT n g)) && ex (kOfT n g)))
def hookT (n : Nat) (fa : List He.Fa) (fn : List He.DefD) (fx : List DefX) (ex : PySem.W.Frag → Bool) : PySem.W.Hook where
  α := AlZ
  obs := fun s => obsT n fa fn fx ex s.heap.get?
  val := fun _ => (He.valD fn, (fx.map (fun x : DefX => x.d.val), true))
  says := fun _ h => ∃ K : PySem.W.Frag, K.In h ∧ He.SaysD fa fn K ∧ SaysX fx K ∧ ex K = true
  of := fun _ s e => ⟨kOfT n s.heap.get?, He.frG_in, congrArg (fun z : AlZ => z.1) e, ⟨congrArg (fun z : AlZ => z.2.1) e, (He.ba (show (fx.all (okX (kOfT n s.heap.get?)) && ex (kOfT n s.heap.get?)) = true from congrArg (fun z : AlZ => z.2.2) e)).1⟩, (He.ba (show (fx.all (okX (kOfT n s.heap.get?)) && ex (kOfT n s.heap.get?)) = true from congrArg (fun z : AlZ => z.2.2) e)).2⟩
  keeps := fun _ _ _ ⟨K, hK, c⟩ k => ⟨K, PySem.W.Frag.In.keeps hK k, c⟩
theorem obsT_eq {n : Nat} {fa : List He.Fa} {fn : List He.DefD} {fx : List DefX} {ex : PySem.W.Frag → Bool} {g : Addr → Option Obj} {s : Shared} (h : ∀ a, g a = s.heap.get? a) : obsT n fa fn fx ex g = (hookT n fa fn fx ex).obs s := by
  have e : g = s.heap.get? := funext h
  rw [e]
  rfl
/-- every parameter but the first n is named -/
theorem kbn {K : PySem.W.Frag} {x qual : Str} {params : Arguments} {body : List Stmt} {scope : Scope} {kws : List (Str × V)} {f : Addr} {fd : FuncData} {ps : List Str} (F : FunD K x qual params body scope [] kws f fd) (n : Nat) (ks : List Str) (gU : List Value → List Value → List Value) (gV : List V → List V → List V)
    (hrel : ∀ {vs zs : List V} {us ws : List Value}, Vals vs us → Vals zs ws → Vals (gV vs zs) (gU us ws))
    (h : ∀ (kV doc pm : Value) (an : Option Addr) (cdv ct : Value) (us ws : List Value), us.length = n → ws.length = ks.length → bindArgs (PySem.W.fnOf x qual params body scope .none kV doc pm an cdv ct) ⟨us, ks.zip ws⟩ = pure (ps.zip (gU us ws))) : KBn K fd ps n ks gU gV := by
  obtain ⟨oc, od, dV, kV, doc, pm, an, cdv, ct, osl, rfl, lk, hcd, hD, hK⟩ := F.ex
  rcases hD with ⟨_, rfl⟩ | ⟨e, _⟩
  · exact ⟨fun s us ws _ l1 l2 => .of_eq (h kV doc pm an cdv ct us ws l1 l2), fun r z => hrel r z⟩
  · exact absurd rfl e
theorem Vals.rev : ∀ {vs : List V} {us : List Value}, Vals vs us → Vals vs.reverse us.reverse
  | _, _, .nil => .nil
  | _, _, .cons a b => by
    rw [List.reverse_cons, List.reverse_cons]
    exact (Vals.rev b).append (.cons a .nil)
end GL
namespace GL
open PySem PySem.Spec PyProof.Rows L2
section
open HandSHeadRun
/-- the head's run, put together from what it shows of its parts: each is computed by itself -/
theorem run_parts {r : PySem.W.OpenRow} {q : Program} {n : Nat} {fa : List He.Fa} {fn : List He.DefD} {fx : List DefX} {ex : PySem.W.Frag → Bool} {M : Nat} {loose : List PySem.Str} {w : World}
    (h1 : (wholeF (fun p => stepQ (denQ tabQ) p w) fenceQ M r.prog).map (fun x => (looksF r.prog x.1.heap x.2.abs, seenQ q loose (importedModules r.prog.main.body) (fun s => PySem.W.xlAt q [] s && PySem.W.recOk r.toRowW.records s) x.2.abs)) = some (true, PySem.W.openGood q loose))
    (h2 : (wholeF (fun p => stepQ (denQ tabQ) p w) fenceQ M r.prog).map (fun x => He.obsD fa fn (kOfT n (getT x.2))) = some (He.valD fn))
    (h3 : (wholeF (fun p => stepQ (denQ tabQ) p w) fenceQ M r.prog).map (fun x => (fx.map (fnX (kOfT n (getT x.2))), fx.all (okX (kOfT n (getT x.2))) && ex (kOfT n (getT x.2)))) = some (fx.map (fun x : DefX => x.d.val), true)) :
    RunEqI r q (hookT n fa fn fx ex) (fun s => obsT n fa fn fx ex (getT s)) M loose w := by
  unfold RunEqI
  cases e : wholeF (fun p => stepQ (denQ tabQ) p w) fenceQ M r.prog with
  | none =>
    rw [e] at h1
    cases h1
  | some x =>
    rw [e] at h1 h2 h3
    have a1 := Option.some.inj h1
    have a2 := Option.some.inj h2
    have a3 := Option.some.inj h3
    obtain ⟨b1, b2⟩ := Prod.mk.inj a1
    refine congrArg some (Prod.ext b1 (Prod.ext b2 ?_))
    exact Prod.ext a2 a3
end
end GL
set_option maxHeartbeats 4000000
/-! Errors of the program raised and caught: raise C(e, ..) of a class of errors with an __init__ that stores its parameters; several clauses with names; a field of what was caught. -/
namespace GL
open PySem PySem.Spec PyProof.Rows L2
/-! ### raise C(e, ..) -/
theorem XC.isType {K : PySem.W.Frag} {C : Addr} {b : EB} (T : XC K C b) : PySem.W.typeIn K (.ref C) = some (.type "type") := by
  obtain ⟨nm, q, N, bs, bm, sn, sub, ab, col, dd, k0, k1, k2, k3, k5, hC, _⟩ := T.cls
  show Option.map (fun x => x.cls) (List.lookup C K) = _
  rw [hC]
  rfl
/-- C(e, ..) made, to be raised: fl its fields -/
def tRaise (C : Addr) (fl : List Str) (t : TA) : L2.St → Hp → XK → Prop := fun σ H Q => t σ H fun vs H1 => vs.length = fl.length ∧ vs.length ≤ 1000 ∧ ∀ d H2, Same H1 H2 → H1 d = none → H2 d = some (.xd (fl.zip vs).reverse) → Q (.ref C) (some d) H2
section
variable {X : Cx} {x : Str} {C fI : Addr} {b : EB} {k : Nat} {fd : FuncData} {ps : List Str} {fl : List Str} {e : Expr} {es : List Expr} {ta : TA} {p pos : Pos}
theorem pmk_x (T : XC X.K C b) (iC : PySem.W.findIn X.K (.ref C) "__init__" = some (some (.ref fI))) (tI : PySem.W.typeIn X.K (.ref fI) = some (.type "function")) (F1 : FnOk X.prog X.w X.K X.mg X.base CX0 k fI fd ps (spInit C fl))
    (hr : Room (k + 1) X.A) (hb : Binds X.K fd ps []) (hg : Gl X x) (hm : X.mg x = some (.ref C)) (ha : PA X (e :: es) ta) (hdb : (x == ("__debug__" : Str)) = false := by decide)
    (he : starEach (e :: es) X.env = (false, eval e X.env) :: starEach es X.env := by rfl) (hpl : (backTo pos (starEach es X.env)).any (·.1) = false := by rfl) : PMk X (.Call (.Name x p) (e :: es) [] pos) (tRaise C fl ta) := by
  intro pins s σ H Q I h
  apply wpAny_Call_Name_kw
  refine ld_glob I hg hm ?_ hdb
  refine PySem.W.callWith_K (h₀ := X.base) I.ok.mod.kin T.keep (thn (ha.run pos pins s σ H _ I h) ?_) he hpl
  rintro us s1 ⟨vs, H1, I1, r1, len, small, q⟩
  refine ⟨I1.kIn, ?_⟩
  obtain ⟨nm, qn, N, bs, bm, sn, sub, ab, col, dd, k0, k1, k2, k3, k5, hC, hbm⟩ := T.cls
  obtain ⟨i, FB⟩ := b.base
  rcases s1 with ⟨hp, g, dr, tk, os⟩
  have le1 : hp.objs.size ≤ hp.objs.size + 1 := Nat.le_succ _
  have free : H1 (hp.objs.size + 1) = none := I1.hok.fresh le1
  have kk : ∀ b o, hp.get? b = some o → ((hp.push (PySem.W.kdv_tup us)).push (PySem.HandSPX.excO C hp.objs.size)).get? b = some o := fun b o z => Heap.get?_push_of_some _ (Heap.get?_push_of_some _ z)
  have at_ : ((hp.push (PySem.W.kdv_tup us)).push (PySem.HandSPX.excO C hp.objs.size)).get? (hp.objs.size + 1) = some (PySem.HandSPX.excO C hp.objs.size) := by heap_get
  have J : Inv X pins σ (upd H1 (hp.objs.size + 1) (exo (hp.objs.size + 1) C none)) ⟨(hp.push (PySem.W.kdv_tup us)).push (PySem.HandSPX.excO C hp.objs.size), g, dr, tk, os⟩ := I1.laid (t' := tk) kk le1 (exo_ok at_)
  have rr : Vals (V.ref (hp.objs.size + 1) :: vs) (Value.ref (hp.objs.size + 1) :: us) := .cons rfl r1
  have le2 : us.length ≤ sizeLine := by
    rw [← Paired.length r1, sizeLine_eq]
    omega
  have hq : spInit C fl (.ref (hp.objs.size + 1) :: vs) (upd H1 (hp.objs.size + 1) (exo (hp.objs.size + 1) C none)) (fun v H2 => v = .non ∧ ∃ d, H2 (hp.objs.size + 1) = some (exo (hp.objs.size + 1) C (some d)) ∧ H2 d = some (exd d (fl.zip vs).reverse) ∧ H1 d = none ∧
      Q (.ref C) (some d) (upd (del H2 (hp.objs.size + 1)) d (.xd (fl.zip vs).reverse))) E0 := by
    refine ⟨_, vs, rfl, len, upd_same, fun dx H' n1 n2 o1 o2 kp => ⟨rfl, dx, o1, o2, ?_, ?_⟩⟩
    · rw [upd_ne n2] at n1
      exact n1
    · rw [upd_ne n2] at n1
      refine q dx _ (fun c o z => ?_) n1 upd_same
      have c1 : c ≠ hp.objs.size + 1 := ne_of_none z free
      have c2 : c ≠ dx := ne_of_none z n1
      rw [upd_ne c2, del_ne c1]
      exact kp c o (by rw [upd_ne c1]; exact z) c1
  have hlen := F1.len _ _ _ _ hq
  show wpAny _ _ (PySem.call (.ref C) us) _ _ _
  refine wpAny_call (PySem.GX.made FB (fun Y => PySem.W.excTail_contains Y bm hbm) (I1.kIn _ _ hC) (PySem.W.looks_findIn I1.kIn iC) (fun self => PySem.W.bind_fn I1.kIn self tI) le2 ?_)
  have bnd : BindsTo ⟨(hp.push (PySem.W.kdv_tup us)).push (PySem.HandSPX.excO C hp.objs.size), g, dr, tk, os⟩ fd ⟨Value.ref (hp.objs.size + 1) :: us, []⟩ (ps.zip (Value.ref (hp.objs.size + 1) :: us)) := by
    have z := hb _ (Value.ref (hp.objs.size + 1) :: us) J.kIn (by rw [List.append_nil, ← hlen, List.length_cons, List.length_cons, Paired.length r1])
    simpa using z
  refine codeAny_mono (F1.run _ X.stack _ _ ⟨Value.ref (hp.objs.size + 1) :: us, []⟩ (Value.ref (hp.objs.size + 1) :: us) _ _ E0 (hr.make C us []) (J.env0.make C us []) bnd rr hq) ?_
  intro r' s' z
  match r', z with
  | .error er, z => exact False.elim z
  | .ok .next, z => exact False.elim z
  | .ok .brk, z => exact False.elim z
  | .ok .cont, z => exact False.elim z
  | .ok (.ret u), z =>
    obtain ⟨v, H2, os2, bare2, un2, hok2, rv, rfl, d, o1, o2, n1, w⟩ := z
    obtain ⟨h2, g2, d2, t2, os'⟩ := s'
    exact ⟨rv, mk_end (raises_own T.exB T.isType) I1 le1 kk un2 hok2 os2 bare2 o1 o2 n1 w⟩
end

/-! ### several clauses, each with a name -/
/-- the ends of a clause's suite: its name (slot i) is gone -/
def gone (D : Ends) (i : Nat) : Ends := { nx := fun z H' => D.nx (z.set i none) H', rt := D.rt, bk := fun z H' => D.bk (z.set i none) H', ct := fun z H' => D.ct (z.set i none) H' }
abbrev Clause : Type := Value × Nat × (Addr → Value → Option Addr → TS)
/-- what the clauses wish of an exception of the body -/
def wNamed (K : PySem.W.Frag) (W0 : WX) (D : Ends) : List Clause → WX
  | [] => W0
  | (c, i, ts) :: rest => fun cls d z H => ∃ hit, PySem.W.exmOne K cls c = some hit ∧ (hit = true → ∀ a, H a = none → ts a cls d (gone D i) (z.set i (some (.ref a))) H) ∧ (hit = false → wNamed K W0 D rest cls d z H)
inductive Clauses (X : Cx) : List ExceptHandler → List Clause → Prop
  | nil : Clauses X [] []
  | cons {x n : Str} {c : Value} {i : Nat} {ts : Addr → Value → Option Addr → TS} {b₀ : Stmt} {suite : List Stmt} {q1 q2 : Pos} {hds : List ExceptHandler} {rest : List Clause} (slot : X.N[i]? = some n) (own : X.env.kindOf n = some .local) (hc : Names X x c)
      (run : ∀ (a : Addr) (oe : Obj) (cls : Value) (d : Option Addr) (pn : List (Addr × Obj)), Zc cls d oe → (∃ vs, oe.data = .fields vs) → PSs (X.suite a ((a, oe) :: pn)) (b₀ :: suite) (ts a cls d)) (more : Clauses X hds rest) :
      Clauses X (.ExceptHandler (some (.Name x q1)) (some n) (b₀ :: suite) q2 :: hds) ((c, i, ts) :: rest)
section
variable {X : Cx} {pins : List (Addr × Obj)} {z z' : L2.St} {H H' : Hp} {s s' sI : Shared} {D : Ends}
/-- behind a suite: the name is taken away -/
theorem suite_end {n : Str} {i : Nat} {a : Addr} {oe : Obj} {pos : Pos} {Q : Shared → Prop} (ok : X.Ok) (hN : X.N.Nodup) (slot : X.N[i]? = some n) (own : X.env.kindOf n = some .local)
    (S : Inv (X.suite a ((a, oe) :: (X.pn ++ pins))) [] z H s) (h : ∀ s2, Inv X pins (z.set i none) H s2 → Q s2) :
    wpAny (model X.prog X.w) X.A (do bindName X.env n .none; unbindBehindTheSuite X.env n pos) (fun _ s2 => Q s2) X.xe s := gone_ok (S.unsuite ok) hN slot own h
theorem in_clauses {W0 : WX} {B : Heap} {a : Addr} {cls : Value} {d : Option Addr} (tk : Takes X W0) (hs : X.stack = X.env :: X.outer) (hf : X.env.frame = some X.env.locals) (hN : X.N.Nodup) (I : Inv X pins z H sI)
    (nb : ∀ b o, sI.heap.get? b = some o → b ∉ frs X.stack → B.get? b = some o) (up : sI.heap.UpToSlots s.heap) (fl : HandSPX.FlyingZ B (X.env :: X.outer) a (Zc cls d) s.heap) (na : H a = none) (os : s.os = sI.os) (ag : AllBare s.gens)
    {hds : List ExceptHandler} {l : List Clause} (hk : Clauses X hds l) (w : wNamed X.K W0 D l cls d z H) : wpAny (model X.prog X.w) X.A (handleBy (.ref a) X.env hds) (SP X pins D) X.xe s := by
  have ok := I.ok
  have landed : Inv X pins z H s := I.landed nb fl.1 up os ag
  have apart : ∀ {h : Heap}, HandSPX.FlyingZ B (X.env :: X.outer) a (Zc cls d) h → a ≠ X.env.locals ∧ a ∉ X.fs := by
    intro h f
    obtain ⟨oe, vs, e1, _, e3⟩ := f.there
    have nm : a ∉ frs (X.env :: X.outer) := fun m => by
      obtain ⟨_, o', e', no⟩ := f.2.2.1.mem m
      rw [e1] at e'
      cases e'
      exact no _ e3
    refine ⟨fun q => nm (List.mem_filterMap.mpr ⟨X.env, List.mem_cons_self, by rw [hf, q]⟩), fun m => ?_⟩
    obtain ⟨e, he, q⟩ := List.mem_filterMap.mp m
    exact nm (List.mem_filterMap.mpr ⟨e, List.mem_cons_of_mem _ he, q⟩)
  obtain ⟨nL, nF⟩ := apart fl
  induction hk with
  | nil =>
    refine wpAny_handleBy_nil ?_
    obtain ⟨_, _, _, oe, vs, T, oT, ts', e0, _, e2, e3, _⟩ := id fl
    unfold PySem.passOn
    refine wpAny_bind (wpAny_field e0 e2 e3 ?_)
    have notNone : ¬ ((Value.ref T == Value.none) = true) := by simp
    rw [if_neg notNone]
    have last : wpAny (model X.prog X.w) X.A (setFlight (.ref a) X.env.frame) (fun _ s4 => wpAny (model X.prog X.w) X.A (throw (.ref a) : Sem Flow) (SP X pins D) X.xe s4) X.xe s := by
      rw [hf]
      refine HandSPX.setFlight_upZ fl fun h4 held up4 => wpAny_throw (tk _ _ ⟨a, B, sI, pins, z, H, cls, d, rfl, I, nb, up.trans up4, .inr (.inr ?_), na, os, ag, w⟩)
      rw [hs]
      exact held
    first
      | exact wpAny_bind last
      | exact wpAny_bind (wpAny_pure (wpAny_bind last))
  | @cons x n c i ts b₀ suite q1 q2 hds rest slot own hc run more ih =>
    obtain ⟨hit, m, yes, no⟩ := w
    obtain ⟨oe, vs, e1, e2, e3⟩ := fl.there
    have S0 := landed.suite e1 e3 na nL nF
    refine wpAny_handleBy_cons (codeAny_handlers_test ?_) (fun q => nomatch q)
    have ty : PySem.W.Looks (model X.prog X.w) s.heap (typeOf (.ref a)) cls := fun A Q E s k q => wpAny_typeOf_ref (k _ _ e1) (by rw [e2.1]; exact q)
    have mt := PySem.W.exm_one (M := model X.prog X.w) landed.kIn ty m
    have named : ∀ {Q : Value → Shared → Prop} {E : Value → Shared → Prop}, Q c s → wpAny (model X.prog X.w) (X.A.mark (some (.ref a))) (eval (.Name x q1) X.env) Q E s := by
      intro Q E q
      rcases hc with ⟨g, db, hm | ⟨hm, hv, hnn⟩⟩
      · exact ld_glob (X := X.suite a ((a, oe) :: (X.pn ++ pins))) S0 g hm q db
      · exact ld_blt (X := X.suite a ((a, oe) :: (X.pn ++ pins))) S0 g hm hv q hnn db
    apply named
    refine mt.here ?_
    cases hit with
    | false => exact ih (no rfl)
    | true =>
      refine codeAny_handlers_suite_as ?_
      refine HandSPX.lands_againZ fl fun h4 fl4 up4 => ?_
      have J4 : Inv X pins z H { s with heap := h4 } := I.landed nb fl4.1 (up.trans up4) os ag
      obtain ⟨oe4, vs4, f1, f2, f3⟩ := fl4.there
      obtain ⟨mL, mF⟩ := apart fl4
      refine store_ok (X := X.suite a ((a, oe4) :: (X.pn ++ pins))) (v := .ref a) (J4.suite f1 f3 na mL mF) hN slot (.inl own) rfl (fun s5 S5 => ?_) (.inr own)
      refine wpAny_mono ((run a oe4 cls d (X.pn ++ pins) f2 ⟨_, f3⟩).run [] s5 _ H _ S5 (yes rfl a na)) ?_ fun _ _ q => False.elim q
      intro f s6 hsp
      match f, hsp with
      | .next, hsp =>
        obtain ⟨z6, H6, S6, w6⟩ := hsp
        exact suite_end ok hN slot own S6 fun s7 J7 => ⟨_, _, J7, w6⟩
      | .brk, hsp =>
        obtain ⟨z6, H6, S6, w6⟩ := hsp
        exact suite_end ok hN slot own S6 fun s7 J7 => ⟨_, _, J7, w6⟩
      | .cont, hsp =>
        obtain ⟨z6, H6, S6, w6⟩ := hsp
        exact suite_end ok hN slot own S6 fun s7 J7 => ⟨_, _, J7, w6⟩
      | .ret u, hsp =>
        obtain ⟨v6, z6, H6, S6, r6, w6⟩ := hsp
        exact suite_end ok hN slot own S6 fun s7 J7 => ⟨_, _, _, J7, r6, w6⟩
theorem ps_try_named {body : List Stmt} {h₀ : ExceptHandler} {hds : List ExceptHandler} {l : List Clause} {pos : Pos} {tb : WX → TS} {W0 : WX} (hs : X.stack = X.env :: X.outer) (hf : X.env.frame = some X.env.locals) (hN : X.N.Nodup) (tk : Takes X W0)
    (hb : ∀ (W : WX) (pn : List (Addr × Obj)) (xe : Value → Shared → Prop), Takes (X.tr pn xe) W → PSs (X.tr pn xe) body (tb W)) (hh : Clauses X (h₀ :: hds) l) :
    PS X (.Try body (h₀ :: hds) [] [] pos) (fun D z H => tb (wNamed X.K W0 D l) D z H) := by
  constructor
  intro pins s z H D I h
  have ok := I.ok
  have frames : X.A.frames = some (X.env :: X.outer) := by rw [ok.frames, hs]
  apply wpAny_Try_except
  refine wpAny_mono ((hb (wNamed X.K W0 D l) (X.pn ++ pins) _ ?_).run [] s z H D (I.toTry _) h) ?_ fun e s1 q => q
  · intro u s' xx
    obtain ⟨a, B, sI, pins', z', H', cls, d, rfl, J', nb, up, sky, na, os, ag, w⟩ := xx
    have sky' : Sky B (X.env :: X.outer) a (Zc cls d) X.env.locals s'.heap := by
      rw [← hs]
      exact sky
    show wpAny (model X.prog X.w) X.A (noteFrame (.ref a) X.env) _ _ _
    refine Sky.land Zc.steady frames hf sky' fun h3 fl3 up3 => ?_
    exact in_clauses (s := { s' with heap := h3 }) tk hs hf hN (J'.ofTry ok) nb (up.trans up3) fl3 na os ag hh w
  · intro f s1 hsp
    match f, hsp with
    | .next, hsp =>
      obtain ⟨z', H', J', q⟩ := hsp
      exact wpAny_execs_nil ⟨z', H', J'.ofTry ok, q⟩
    | .brk, hsp =>
      obtain ⟨z', H', J', q⟩ := hsp
      exact ⟨z', H', J'.ofTry ok, q⟩
    | .cont, hsp =>
      obtain ⟨z', H', J', q⟩ := hsp
      exact ⟨z', H', J'.ofTry ok, q⟩
    | .ret u, hsp =>
      obtain ⟨v, z', H', J', r, q⟩ := hsp
      exact ⟨v, z', H', J'.ofTry ok, r, q⟩
end
end GL
set_option maxHeartbeats 4000000
/-! What was caught: its fields, isinstance. -/
namespace GL
open PySem PySem.Spec PyProof.Rows L2
/-- the caught error's fields: d its dict -/
def Fields (H : Hp) (d : Option Addr) (fs : List (Str × V)) : Prop := (d = none ∧ fs = []) ∨ ∃ dx, d = some dx ∧ H dx = some (.xd fs)
section
variable {X : Cx} {a C : Addr} {oe : Obj} {pn : List (Addr × Obj)} {d : Option Addr} {b : EB} {e : Expr} {te : TE} {f : Str} {pos : Pos}
theorem caught_inst {pins : List (Addr × Obj)} {z : L2.St} {H : Hp} {s : Shared} {fs : List (Str × V)} (I : Inv (X.suite a ((a, oe) :: pn)) pins z H s) (hz : Zc (.ref C) d oe) (hf : ∃ vs, oe.data = .fields vs) (hd : Fields H d fs) :
    ∃ od, PySem.W.InstAt s.heap a oe C od ∧ ∀ f v, fs.lookup f = some v → ∃ u oD, od = some oD ∧ RelV v u ∧ PySem.W.lookIn f oD = some (some u) := by
  have there : s.heap.get? a = some oe := (I.pin (a, oe) (List.mem_append.mpr (.inl List.mem_cons_self))).1
  obtain ⟨vs, hv⟩ := hf
  obtain ⟨oc, od, dt, sl⟩ := oe
  obtain ⟨h1, h2⟩ := hz
  dsimp only at h1 h2 hv
  subst h1 h2 hv
  rcases hd with ⟨rfl, rfl⟩ | ⟨dx, rfl, hx⟩
  · exact ⟨none, ⟨there, rfl, rfl, trivial⟩, fun f v z => nomatch z⟩
  · obtain ⟨mA, hns, hr⟩ := I.hok dx _ hx
    obtain ⟨oD, hD, look⟩ := lookIn_ns hns
    refine ⟨some oD, ⟨there, rfl, rfl, hD⟩, fun f v z => ?_⟩
    obtain ⟨u, hu, ru⟩ := RelO.some_of (v := v) (o := mA f) (by rw [← z]; exact hr f)
    exact ⟨u, oD, rfl, ru, by rw [look, hu]⟩
/-- e.f, e what was caught -/
def tCaught (K : PySem.W.Frag) (C a : Addr) (cls : Value) (d : Option Addr) (te : TE) (f : Str) : TE := fun z H Q => te z H fun x H1 => x = .ref a ∧ cls = .ref C ∧ ∃ (fs : List (Str × V)) (v : V), PySem.W.findIn K (.ref C) f = some none ∧ Fields H1 d fs ∧ fs.lookup f = some v ∧ Q v H1
theorem pe_caught {cls : Value} (T : XC X.K C b) (hz : Zc cls d oe) (hf : ∃ vs, oe.data = .fields vs) (he : PE (X.suite a ((a, oe) :: pn)) e te) (hb : attributeBase e f X.env (eval e X.env) = eval e X.env := by rfl) : PE (X.suite a ((a, oe) :: pn)) (.Attribute e f pos) (tCaught X.K C a cls d te f) := by
  constructor
  intro pins s z H Q I h
  refine attr_of hb (thn (he.run pins s z H _ I h) ?_)
  rintro u s1 ⟨x, H1, I1, rx, rfl, rfl, fs, v, no, hd, l, q⟩
  cases (show u = Value.ref a from rx)
  obtain ⟨od, J, look⟩ := caught_inst I1 hz hf hd
  obtain ⟨u, oD, rfl, ru, hl⟩ := look f v l
  obtain ⟨cd, hcl, _, hdct⟩ := T.data
  have has : PySem.W.hasDictIn X.K C = true := by
    unfold PySem.W.hasDictIn
    rw [hcl]
    exact hdct
  exact HandSPX.exc_get I1.kIn J T.ga T.gg T.exB (PySem.W.findObj_own has no rfl hl) (handed_of ru) ⟨v, H1, I1.tok _, ru, q⟩
/-- isinstance(e, c) -/
def rCaughtIs (K : PySem.W.Frag) (C a : Addr) (cls : Value) (d : Option Addr) : List V → Hp → VK → Prop := fun xs H Q => ∃ (c : V) (cv : Value) (k : Bool) (fs : List (Str × V)), xs = [.ref a, c] ∧ cls = .ref C ∧ Fields H d fs ∧ ClsV c cv ∧ PySem.W.kitOne K (.ref C) cv = some k ∧ Q (.bl k) H
theorem call_caughtIs {cls : Value} (T : XC X.K C b) (hz : Zc cls d oe) (hf : ∃ vs, oe.data = .fields vs) (hn : PySem.W.specialIn X.K (.builtin "object.__class__") "__get__" = some (some (.builtin "getset_descriptor.__get__"))) (ht : PySem.W.takesIn X.K (.builtin "object.__class__") = some true) :
    CallR (X.suite a ((a, oe) :: pn)) (.builtin "isinstance") (rCaughtIs X.K C a cls d) := by
  intro pins s z H xs us Q I r h
  obtain ⟨c, cv, k, fs, rfl, rfl, hd, hc, e, q⟩ := h
  obtain ⟨u1, u2, rfl, r1, r2⟩ := vals2 r
  cases (show u1 = Value.ref a from r1)
  cases hc.eq r2
  obtain ⟨od, J, _⟩ := caught_inst I hz hf hd
  obtain ⟨cd, hcl, _, _⟩ := T.data
  exact PySem.W.kia_one (PySem.W.kitx_exc (by rw [hcl]; rfl) T.ga T.gg T.exB T.kl hn ht T.ob) I.kIn J e (fun z => nomatch z) fun tk => ⟨.bl k, H, I.tok tk, rfl, q⟩
end
end GL
set_option maxHeartbeats 4000000
/-! A lambda handed to a def that calls it within try, the clauses with names. -/
namespace GL
open PySem PySem.Spec PyProof.Rows L2
section
variable {X : Cx} {pins : List (Addr × Obj)} {z : L2.St} {H : Hp} {s : Shared}
abbrev lamObj (X : Cx) (params : Arguments) (body : Expr) (scope : Scope) (pm : Value) (c' : Addr) (ctv : Value) : Obj := PySem.W.kla_obj "<lambda>" (X.env.qual ++ "<lambda>") params body scope (cloFrom X.env.cells scope.names []) pm c' ctv
/-- a(), a the parameter of the def that got the lambda: what the lambda lets out meets the clauses with the slots as they are -/
theorem pe_actAt {CXg : CXT} {Eg : XK} {Ng : List Str} {qg : Str} {sg : Scope} {g f c' : Addr} {cdg pm ctv : Value} {params : Arguments} {body : Expr} {scope : Scope} {k i : Nat} {a : Str} {pn : List (Addr × Obj)} {xe : Value → Shared → Prop} {W : WX} {tb : XK → TE} {p1 p2 : Pos}
    (I : Inv X pins z H s) (L : LamX.LamS X.env.scope scope) (made : s.heap.get? f = some (lamObj X params body scope pm c' ctv)) (free : H f = none) (nofr : f ∉ frs X.stack)
    (bare : bindArgs (PySem.W.kla_fn "<lambda>" (X.env.qual ++ "<lambda>") params body scope (cloFrom X.env.cells scope.names []) pm (.ref c') ctv) ⟨[], []⟩ = pure [])
    (tk : Takes ((cxOf CXg X.prog X.w X.K X.mg X.base Ng qg sg g cdg X.A X.stack s H Eg).tr pn xe) W) (room : Room (k + 1) (X.A.deeper (envOfC qg sg s.heap.objs.size g cdg)))
    (inner : ∀ (A : Around) (outer : List Env) (s2 : Shared) (H2 : Hp) (E : XK), A.guards = X.A.guards → Room k (A.deeper (LamX.lamEnv X scope s2.heap.objs.size f c')) → PE (LamX.lamCx X A outer s2 H2 E scope f c') body (tb E))
    (at_ : Ng[i]? = some a) (hv : Vis sg a) (hd : (a == ("__debug__" : Str)) = false := by decide) (hcd : (a == ("__classdict__" : Str)) = false := by decide) :
    PE ((cxOf CXg X.prog X.w X.K X.mg X.base Ng qg sg g cdg X.A X.stack s H Eg).tr pn xe) (.Call (.Name a p1) [] [] p2)
      (fun y HZ Q => y[i]? = some (some (.ref f)) ∧ HZ c' = some (LamX.CodeO c' (X.env.qual ++ "<lambda>")) ∧ tb (fun cls d H' => W cls d y H') z HZ Q) := by
  constructor
  intro pinsZ sZ y HZ Q IZ ⟨slot, code, rd⟩
  have nm : PE ((cxOf CXg X.prog X.w X.K X.mg X.base Ng qg sg g cdg X.A X.stack s H Eg).tr pn xe) (.Name a p1) _ := pe_var (pos := p1) (i := i) at_ hv hd hcd
  apply wpAny_Call_Name_kw
  refine thn (nm.run pinsZ sZ y HZ (fun v H1 => v = .ref f ∧ H1 = HZ) IZ ⟨.ref f, slot, rfl, rfl⟩) ?_
  rintro u s1 ⟨v, H1, I1, r1, rfl, rfl⟩
  cases (show u = Value.ref f from r1)
  have there : s1.heap.get? f = some (lamObj X params body scope pm c' ctv) := I1.base.keep f _ made free nofr (fun q => nomatch (show f ∈ ([] : List Addr) from q))
  refine PySem.W.callWith_F0 ⟨_, _, _, _, there⟩ ?_
  have un : Un (frs X.stack) [] H H1 s.heap s1.heap := I1.base
  obtain ⟨⟨oc, vs, t, e1, e2, e3⟩, _, _⟩ := I1.hok c' _ code
  have run : codeAny (model X.prog X.w) (X.A.deeper (envOfC qg sg s.heap.objs.size g cdg)) (.call (.ref f) ⟨[], []⟩) (CR (L2.CX X.prog X.w) (envOfC qg sg s.heap.objs.size g cdg :: X.stack) X.prog X.w H1 s1 Q fun cls d H' => W cls d y H') s1 := by
    refine PySem.W.kla_callFunE room.depth there rfl L.co L.gen rfl ⟨c', oc, vs, t, rfl, e1, e2, e3⟩ ?_
    rw [bare]
    refine wpAny_pure (wpAny_newFunctionEnv (fun n hn => (L.own n hn).2) (fun n hn => absurd hn (by simp)) (fun h₁ names but => ⟨I1.nolimit.fresh _ but, ?_⟩) L.kind)
    have kp : ∀ b o, s1.heap.get? b = some o → h₁.get? b = some o := fun b o q => but.extBut b o (Nat.ne_of_lt (Heap.lt_size q)) (Heap.get?_push_of_some _ q)
    have J : Inv (LamX.lamCx X (X.A.deeper (envOfC qg sg s.heap.objs.size g cdg)) (envOfC qg sg s.heap.objs.size g cdg :: X.stack) s1 H1 (fun cls d H' => W cls d y H') scope f c') [] z H1 { s1 with heap := h₁, toks := s1.toks + ([] : List (Str × Value)).length } :=
      LamX.lam_start2 I L I1.env0 room.hd un names kp
    refine PySem.W.kla_codeExpr (wpAny_mono ((inner (X.A.deeper (envOfC qg sg s.heap.objs.size g cdg)) _ s1 H1 _ rfl (room.deeper _)).run [] _ _ H1 Q J rd) ?_ fun e s' q => q)
    rintro v s' ⟨w', H', J', rv, q⟩
    exact ⟨w', H', J'.os, J'.bare, J'.base, J'.hok, rv, q⟩
  have out := passAt tk y
  refine wpAny_call (codeAny_mono run ?_)
  intro r s' q
  match r, q with
  | .error er, q => exact out pinsZ H1 s1 er s' I1 q
  | .ok (.ret u), q => exact I1.after q
  | .ok .next, q => exact False.elim q
  | .ok .brk, q => exact False.elim q
  | .ok .cont, q => exact False.elim q
end

/-- the def that calls what it got (a, its one parameter): TT what it makes of the lambda's reading -/
def Gives (X : Cx) (Ng : List Str) (x : Str) (sg : Scope) (g : Addr) (cdg : Value) (bg : List Stmt) (a q : Str) (k : Nat) (TT : (XK → Hp → VK → Prop) → Hp → VK → Prop) : Prop :=
  ∀ (f c' : Addr) (s : Shared) (H : Hp) (Q : VK) (tl : XK → Hp → VK → Prop), Room k (X.A.deeper (envOfC x sg s.heap.objs.size g cdg)) →
    (∀ (W : WX) (pn : List (Addr × Obj)) (xe : Value → Shared → Prop) (p1 p2 : Pos), Takes ((cxOf CX0 X.prog X.w X.K X.mg X.base Ng x sg g cdg X.A X.stack s H E0).tr pn xe) W →
      PE ((cxOf CX0 X.prog X.w X.K X.mg X.base Ng x sg g cdg X.A X.stack s H E0).tr pn xe) (.Call (.Name a p1) [] [] p2) (fun y HZ Q => y[0]? = some (some (.ref f)) ∧ HZ c' = some (LamX.CodeO c' q) ∧ tl (fun cls d H' => W cls d y H') HZ Q)) →
    H c' = some (LamX.CodeO c' q) → TT tl H Q → ∃ t, PSs (cxOf CX0 X.prog X.w X.K X.mg X.base Ng x sg g cdg X.A X.stack s H E0).nox bg t ∧ t { nx := fun _ H' => Q .non H', rt := Q } (L2.start Ng [.ref f]) H
section
variable {X : Cx}
/-- x(lambda: body) -/
theorem pe_told {T : List (Addr × Str)} {TT : (XK → Hp → VK → Prop) → Hp → VK → Prop} {x a : Str} {g c P : Addr} {k : Nat} {pg : Arguments} {bg : List Stmt} {sg : Scope} {dV kV doc pm cdv ct oc : Value} {an od : Option Addr} {osl : Array (Option Value)} {Ng : List Str}
    {params : Arguments} {body : Expr} {scope : Scope} {t : XK → TE} {p lpos pos : Pos} (hg : Gl X x) (hm : X.mg x = some (.ref g)) (hk : PySem.W.keepIn X.K (.ref g) = true)
    (lk : X.K.lookup g = some ⟨oc, od, .func (PySem.W.fnOf x x pg bg sg dV kV doc pm an cdv ct), osl⟩) (code : PySem.W.codeIn X.K cdv x = true) (hb : Binds X.K (PySem.W.fnOf x x pg bg sg dV kV doc pm an cdv ct) [a] []) (Sg : FnScope Ng [a] sg) (a0 : Ng[0]? = some a) (va : Vis sg a)
    (gives : Gives X Ng x sg g cdv bg a (X.env.qual ++ "<lambda>") (k + 1) TT) (TB : LamX.TabB X.base X.mg c P) (own : X.env.code = .ref c) (mT : (P, X.env.qual ++ "<lambda>") ∈ T) (one : ∀ p ∈ T, p.1 = P → p.2 = X.env.qual ++ "<lambda>")
    (hr : Room (k + 2) X.A) (L : LamX.LamS X.env.scope scope) (nodef : defaultsOf params X.env = ([], []))
    (bare : ∀ (q : Str) (cl : List (Str × Addr)) (pm cv ctv : Value), bindArgs (PySem.W.kla_fn "<lambda>" q params body scope cl pm cv ctv) ⟨[], []⟩ = pure [])
    (inner : ∀ (A : Around) (outer : List Env) (s : Shared) (H : Hp) (E : XK) (f c' : Addr), A.guards = X.A.guards → Room k (A.deeper (LamX.lamEnv X scope s.heap.objs.size f c')) → PE (LamX.lamCx X A outer s H E scope f c') body (t E))
    (hdb : (x == ("__debug__" : Str)) = false := by decide) (hd : (a == ("__debug__" : Str)) = false := by decide) (hcd : (a == ("__classdict__" : Str)) = false := by decide) :
    PE X (.Call (.Name x p) [.Lambda params body scope lpos] [] pos) (LamX.tLam T TT t) := by
  constructor
  intro pins s z H Q I ⟨tabs, h⟩
  apply wpAny_Call_Name_kw
  refine ld_glob I hg hm ?_ hdb
  refine PySem.W.callWith_K (h₀ := X.base) I.ok.mod.kin hk ?_ (by rfl) (by rfl)
  refine Calls.spliced_cons (LamX.lam_make2 I TB own mT one tabs nodef (L.has I.ok) ?_)
  intro f c' pm' ctv H1 s' I1 ext tabs1 made free nofr hco
  refine Calls.spliced_nil ⟨I1.kIn, ?_⟩
  have run : codeAny (model X.prog X.w) X.A (.call (.ref g) ⟨[.ref f], []⟩) (CR CX0 X.stack X.prog X.w H1 s' Q E0) s' := by
    refine LamX.run_ofS (N := Ng) (ps := [a]) (us := [.ref f]) (vs := [.ref f]) lk code Sg hr I1.env0 (hb s' [.ref f] I1.kIn rfl) (.cons rfl .nil) rfl fun room => ?_
    obtain ⟨t', ok, rd⟩ := gives f c' s' H1 Q (fun E H' Q' => t E z H' Q') room (fun W pn xe p1 p2 tk => pe_actAt (i := 0) I1 L made free nofr (bare _ _ _ _ _) tk room (fun A outer s2 H2 E hA hr2 => inner A outer s2 H2 E f c' hA hr2) a0 va hd hcd) hco (h H1 ext tabs1)
    exact ⟨t', ok.nox, rd⟩
  refine wpAny_call (codeAny_mono run ?_)
  intro r s2 q
  match r, q with
  | .error er, q => exact False.elim q
  | .ok (.ret u), q => exact I1.after q
  | .ok .next, q => exact False.elim q
  | .ok .brk, q => exact False.elim q
  | .ok .cont, q => exact False.elim q
end
end GL
set_option maxHeartbeats 8000000
/-! How lists of data are shown: bounds. -/
namespace GL
open PySem PySem.Spec PyProof.Rows L2
theorem textFrom_le : ∀ (ts : List Str) (k : Nat) (acc : Str), (textFrom k acc ts).length ≤ acc.length + piled ts
  | [], k, acc => by
    show acc.length ≤ _
    omega
  | t :: r, k, acc => by
    have ih := textFrom_le r (k + 1) (acc ++ (if k > 0 then ", " else "" : String) ++ t)
    have e : (acc ++ (if k > 0 then ", " else "" : String) ++ t).length ≤ acc.length + 2 + t.length := by
      rw [strLen_append, strLen_append]
      split
      · show acc.length + 2 + t.length ≤ _
        omega
      · show acc.length + 0 + t.length ≤ _
        omega
    rw [piled_cons]
    show (textFrom (k + 1) _ r).length ≤ _
    omega
theorem listText_le (ts : List Str) : (listText ts).length ≤ piled ts + 2 := by
  unfold listText
  rw [strLen_append]
  have h := textFrom_le ts 0 "["
  have e1 : ("[" : Str).length = 1 := rfl
  have e2 : ("]" : Str).length = 1 := rfl
  omega
/-- how a list of data is shown: bounds -/
theorem shown_list {ds : List PyData} {n m : Nat} (h : ∀ d ∈ ds, d.showable = true ∧ d.depth ≤ n ∧ d.shown.length ≤ m) : (PyData.list ds).showable = true ∧ (PyData.list ds).depth ≤ n + 1 ∧ (PyData.list ds).shown.length ≤ ds.length * (m + 2) + 2 := by
  have a : PyData.showableAll ds = true ∧ PyData.depthAll ds ≤ n ∧ piled (PyData.shownAll ds) ≤ ds.length * (m + 2) := by
    induction ds with
    | nil => exact ⟨rfl, Nat.zero_le _, Nat.zero_le _⟩
    | cons d ds ih =>
      obtain ⟨h1, h2, h3⟩ := h d List.mem_cons_self
      obtain ⟨g1, g2, g3⟩ := ih fun e he => h e (List.mem_cons_of_mem _ he)
      refine ⟨?_, ?_, ?_⟩
      · simp [PyData.showableAll, h1, g1]
      · simp only [PyData.depthAll]
        omega
      · simp only [PyData.shownAll]
        rw [piled_cons, List.length_cons, Nat.add_mul]
        omega
  refine ⟨by simp [PyData.showable, a.1], ?_, ?_⟩
  · simp only [PyData.depth]
    omega
  · simp only [PyData.shown]
    have := listText_le (PyData.shownAll ds)
    omega
theorem shown_int {i : Int} (h : i.natAbs.log2 < 1920) : (PyData.int i).showable = true ∧ (PyData.int i).depth ≤ 1 ∧ (PyData.int i).shown.length ≤ 1921 := by
  refine ⟨by simp [PyData.showable, h], by simp [PyData.depth], ?_⟩
  simp only [PyData.shown]
  rw [PySem.ofString_length]
  exact int_text_length_le (by decide) h
theorem shown_two {i j : Int} (hi : i.natAbs.log2 < 1920) (hj : j.natAbs.log2 < 1920) : (PyData.list [.int i, .int j]).showable = true ∧ (PyData.list [.int i, .int j]).depth ≤ 40 ∧ (PyData.list [.int i, .int j]).shown.length ≤ sizeLine := by
  obtain ⟨a, b, c⟩ := shown_list (ds := [.int i, .int j]) (n := 1) (m := 1921) (by
    intro d hd
    simp only [List.mem_cons, List.not_mem_nil, or_false] at hd
    rcases hd with rfl | rfl
    · exact shown_int hi
    · exact shown_int hj)
  refine ⟨a, by omega, ?_⟩
  rw [sizeLine_eq]
  have : ([PyData.int i, .int j] : List PyData).length = 2 := rfl
  rw [this] at c
  omega
/-! ### repr of data of any kind -/
def rReprV (K : PySem.W.Frag) : List V → Hp → VK → Prop := fun xs H Q => ∃ (v : V) (d : PyData), xs = [v] ∧ Dq K H v d ∧ d.showable = true ∧ d.depth ≤ 40 ∧ d.shown.length ≤ sizeLine ∧ Q (.str d.shown) H
theorem call_reprV {X : Cx} (S : SysK X.K) (gd : X.A.guards = some []) (hu : X.A.units + 64 < cLine) : CallR X (.builtin "repr") (rReprV X.K) := by
  intro pins s z H xs us Q I r h
  obtain ⟨v, d, rfl, hd, sh, dp, sz, q⟩ := h
  obtain ⟨u, rfl, r1⟩ := vals1 r
  have ref : ∀ {a : Addr}, v = .ref a → wpAny (model X.prog X.w) X.A (PySem.call (.builtin "repr") [u]) (EP X pins z Q) X.xe s := by
    rintro a rfl
    exact call_reprD S gd hu pins s z H [.ref a] [u] Q I (.cons r1 .nil) ⟨a, d, rfl, hd, sh, dp, sz, q⟩
  cases hd with
  | non =>
    cases r1
    simp only [PyData.shown] at q
    exact PySem.P.repr_of_none ⟨.str _, H, I.tok _, ⟨_, rfl⟩, q⟩
  | bl b =>
    cases r1
    simp only [PyData.shown] at q
    exact PySem.P.repr_of_bool ⟨.str _, H, I.tok _, ⟨_, rfl⟩, q⟩
  | int i =>
    obtain ⟨t, rfl⟩ := r1
    simp only [PyData.shown] at q
    exact PySem.P.repr_of_int (by simpa [PyData.showable] using sh) ⟨.str _, H, I.tok _, ⟨_, rfl⟩, q⟩
  | str x =>
    obtain ⟨t, rfl⟩ := r1
    simp only [PyData.shown] at q sz
    exact PySem.P.repr_of_str ⟨.str _, H, I.tok _, ⟨_, rfl⟩, q⟩ sz
  | lst _ _ => exact ref rfl
  | tup _ _ => exact ref rfl
  | dct _ _ => exact ref rfl
end GL
set_option maxHeartbeats 1000000
/-! == and != of tuples and lists whose items are compared by own methods: which of the two answers is given. -/
namespace PySem
namespace GE
open PySem.SeqAt
open AutoSeq1 (wpAny_loadPart')
open MeetsSeq MeetsSeq2 MeetsSeq3 SeqRoads2
section
variable {prog : Program} {w : World} {A : Around} {R : Result → Shared → Prop}
/-- one pair after the other: es i is what the i-th one gives; F holds at the end -/
def Turns (prog : Program) (w : World) (A : Around) (E : Value → Shared → Prop) (xs ys : Array Value) (es : Nat → Bool) (J : Nat → Shared → Prop) (F : Shared → Prop) : Prop :=
  ∀ i (p : i < xs.size) (q : i < ys.size) (s : Shared), J i s → wpAny (model prog w) A.in1 (eqBool xs[i] ys[i]) (fun r s' => r = es i ∧ F s' ∧ (es i = true → J (i + 1) s')) E s
def allB (m n : Nat) (es : Nat → Bool) (i : Nat) : Bool := ((List.range (min m n)).drop i).all es && m == n
theorem allB_step {m n i : Nat} {es : Nat → Bool} (h : i < min m n) : allB m n es i = (es i && allB m n es (i + 1)) := by
  have e : (List.range (min m n)).drop i = i :: (List.range (min m n)).drop (i + 1) := by simp [List.drop_eq_getElem_cons, h]
  unfold allB
  rw [e, List.all_cons, Bool.and_assoc]
theorem allB_end {m n i : Nat} {es : Nat → Bool} (h : min m n ≤ i) : allB m n es i = (m == n) := by
  unfold allB
  rw [List.drop_of_length_le (by simpa using h), List.all_nil, Bool.true_and]
theorem tup_eqB {l b : Addr} {xs ys : Array Value} {n m : Nat} {dd ee : Option Addr} {sl tl : Array (Option Value)} {J : Nat → Shared → Prop} {F : Shared → Prop} {es : Nat → Bool} (turn : Turns prog w A (fun e s' => R (.error e) s') xs ys es J F) (hJ : ∀ i s, J i s → F s)
    (fin : ∀ s, F s → R (.ok (.ret (.bool (allB xs.size ys.size es 0)))) s) {s : Shared} (hl : s.heap.get? l = some { cls := .type "tuple", dict := dd, data := .seq xs n, slots := sl }) (hb : s.heap.get? b = some { cls := .type "tuple", dict := ee, data := .seq ys m, slots := tl }) (h : J 0 s) :
    wpAny (model prog w) A.in1 (Builtin.«tuple.__eq__» ⟨[.ref l, .ref b], []⟩) (GQ.FinOf prog w A R) (fun e s' => R (.error e) s') s := by
  have f2 := AutoSeq1.sub_tuple_tuple
  have zl : (xs.toList.zip ys.toList).length = min xs.size ys.size := by simp
  have h0 := h
  generalize hk : allB xs.size ys.size es 0 = k at fin
  obtain ⟨hp, g, d, tk, os⟩ := s
  wp_walk using wpAny_loadPart' hl, wpAny_loadPart' hb, wpAny_forIn_list _ (fun rest c s' => c.1 = none ∧ ∃ i, rest = (xs.toList.zip ys.toList).drop i ∧ allB xs.size ys.size es i = k ∧ J i s') _
  case turn =>
    rintro ⟨y, x⟩ rest c s' ⟨hc, i, hz, hi, hJi⟩
    have lt : i < (xs.toList.zip ys.toList).length := by
      apply Nat.lt_of_not_le
      intro z
      rw [List.drop_of_length_le z] at hz
      cases hz
    have lm : i < min xs.size ys.size := zl ▸ lt
    have p : i < xs.size := Nat.lt_of_lt_of_le lm (Nat.min_le_left _ _)
    have q : i < ys.size := Nat.lt_of_lt_of_le lm (Nat.min_le_right _ _)
    rw [List.drop_eq_getElem_cons lt] at hz
    injection hz with e1 e2
    have ey : y = xs[i] := by simpa using congrArg Prod.fst e1
    have ex : x = ys[i] := by simpa using congrArg Prod.snd e1
    subst ey ex
    rw [allB_step lm] at hi
    refine wpAny_bind (wpAny_mono (turn i p q s' hJi) (fun r s2 z => ?_) fun _ _ z => z)
    obtain ⟨rfl, hF, hJ2⟩ := z
    cases he : es i with
    | true =>
      rw [he, Bool.true_and] at hi
      wp_walk
      exact ⟨rfl, i + 1, e2, hi, hJ2 he⟩
    | false =>
      rw [he, Bool.false_and] at hi
      subst hi
      wp_walk
      exact fin _ hF
  case fin =>
    rintro ⟨c1, c2⟩ s' ⟨hc, i, hz, hi, hJi⟩
    simp only at hc
    subst hc
    have ge : min xs.size ys.size ≤ i := by
      rw [← zl]
      apply Nat.le_of_not_lt
      intro z
      rw [List.drop_eq_getElem_cons z] at hz
      cases hz
    rw [allB_end ge] at hi
    subst hi
    wp_walk
    simpa [Builtin.Tuple.tupleCompareSizes] using fin _ (hJ _ _ hJi)
  case h =>
    exact ⟨rfl, 0, rfl, hk, h0⟩
theorem tup_neB {l b : Addr} {xs ys : Array Value} {n m : Nat} {dd ee : Option Addr} {sl tl : Array (Option Value)} {J : Nat → Shared → Prop} {F : Shared → Prop} {es : Nat → Bool} (turn : Turns prog w A (fun e s' => R (.error e) s') xs ys es J F) (hJ : ∀ i s, J i s → F s)
    (fin : ∀ s, F s → R (.ok (.ret (.bool !(allB xs.size ys.size es 0)))) s) {s : Shared} (hl : s.heap.get? l = some { cls := .type "tuple", dict := dd, data := .seq xs n, slots := sl }) (hb : s.heap.get? b = some { cls := .type "tuple", dict := ee, data := .seq ys m, slots := tl }) (h : J 0 s) :
    wpAny (model prog w) A.in1 (Builtin.«tuple.__ne__» ⟨[.ref l, .ref b], []⟩) (GQ.FinOf prog w A R) (fun e s' => R (.error e) s') s := by
  have f2 := AutoSeq1.sub_tuple_tuple
  have zl : (xs.toList.zip ys.toList).length = min xs.size ys.size := by simp
  have h0 := h
  generalize hk : allB xs.size ys.size es 0 = k at fin
  obtain ⟨hp, g, d, tk, os⟩ := s
  wp_walk using wpAny_loadPart' hl, wpAny_loadPart' hb, wpAny_forIn_list _ (fun rest c s' => c.1 = none ∧ ∃ i, rest = (xs.toList.zip ys.toList).drop i ∧ allB xs.size ys.size es i = k ∧ J i s') _
  case turn =>
    rintro ⟨y, x⟩ rest c s' ⟨hc, i, hz, hi, hJi⟩
    have lt : i < (xs.toList.zip ys.toList).length := by
      apply Nat.lt_of_not_le
      intro z
      rw [List.drop_of_length_le z] at hz
      cases hz
    have lm : i < min xs.size ys.size := zl ▸ lt
    have p : i < xs.size := Nat.lt_of_lt_of_le lm (Nat.min_le_left _ _)
    have q : i < ys.size := Nat.lt_of_lt_of_le lm (Nat.min_le_right _ _)
    rw [List.drop_eq_getElem_cons lt] at hz
    injection hz with e1 e2
    have ey : y = xs[i] := by simpa using congrArg Prod.fst e1
    have ex : x = ys[i] := by simpa using congrArg Prod.snd e1
    subst ey ex
    rw [allB_step lm] at hi
    refine wpAny_bind (wpAny_mono (turn i p q s' hJi) (fun r s2 z => ?_) fun _ _ z => z)
    obtain ⟨rfl, hF, hJ2⟩ := z
    cases he : es i with
    | true =>
      rw [he, Bool.true_and] at hi
      wp_walk
      exact ⟨rfl, i + 1, e2, hi, hJ2 he⟩
    | false =>
      rw [he, Bool.false_and] at hi
      subst hi
      wp_walk
      exact fin _ hF
  case fin =>
    rintro ⟨c1, c2⟩ s' ⟨hc, i, hz, hi, hJi⟩
    simp only at hc
    subst hc
    have ge : min xs.size ys.size ≤ i := by
      rw [← zl]
      apply Nat.le_of_not_lt
      intro z
      rw [List.drop_eq_getElem_cons z] at hz
      cases hz
    rw [allB_end ge] at hi
    subst hi
    wp_walk
    simpa [Builtin.Tuple.tupleCompareSizes, bne] using fin _ (hJ _ _ hJi)
  case h =>
    exact ⟨rfl, 0, rfl, hk, h0⟩
/-- the two lists are read anew at each turn -/
def LTurns (prog : Program) (w : World) (A : Around) (E : Value → Shared → Prop) (l b : Addr) (N : Nat) (es : Nat → Bool) (J : Nat → Shared → Prop) (F : Shared → Prop) : Prop :=
  ∀ i (s : Shared), J i s → ∃ (xs ys : Array Value) (n m : Nat), s.heap.get? l = some { cls := .type "list", data := .seq xs n } ∧ s.heap.get? b = some { cls := .type "list", data := .seq ys m } ∧ xs.size = N ∧ ys.size = N ∧
    ∀ (p : i < xs.size) (q : i < ys.size), wpAny (model prog w) A.in1 (eqBool xs[i] ys[i]) (fun r s' => r = es i ∧ F s' ∧ (es i = true → J (i + 1) s')) E s
/-- both can be read -/
def LRead (l b : Addr) (N : Nat) (F : Shared → Prop) : Prop := ∀ s : Shared, F s → ∃ (xs ys : Array Value) (n m : Nat), s.heap.get? l = some { cls := .type "list", data := .seq xs n } ∧ s.heap.get? b = some { cls := .type "list", data := .seq ys m } ∧ xs.size = N ∧ ys.size = N
theorem lst_loopeqB {l b : Addr} {N : Nat} {J : Nat → Shared → Prop} {F : Shared → Prop} {es : Nat → Bool} {k : Bool} (turn : LTurns prog w A (fun e s' => R (.error e) s') l b N es J F) (rd : LRead l b N F) (hJF : ∀ i s, J i s → F s) (fin : ∀ s, F s → R (.ok (.ret (.bool k))) s) (c : Nat) :
    ∀ i : Nat, N - i = c → i ≤ N → allB N N es i = k → ∀ s, J i s → wpAny (model prog w) A.in1 (Builtin.«list.__eq__.loop» ⟨[.ref l, .ref b, rawInt i, rawInt 2], []⟩) (GQ.FinOf prog w A R) (fun e s' => R (.error e) s') s := by
  induction c with
  | zero =>
    intro i hc hi hk s hJ
    obtain ⟨xs, ys, n, m, hl, hb, s1, s2, _⟩ := turn i s hJ
    have last : i = N := by omega
    have hq := fin s (hJF _ _ hJ)
    rw [allB_end (by omega)] at hk
    subst hk
    obtain ⟨hp, g, d, tk, os⟩ := s
    wp_walk using wpAny_loadPart' hl, wpAny_loadPart' hb
    have o1 : xs[((i : Nat) : Int).toNat]? = none := by simp; omega
    have o2 : ys[((i : Nat) : Int).toNat]? = none := by simp; omega
    rw [o1, o2]
    wp_walk using wpAny_loadPart' hl, wpAny_loadPart' hb
    show R (.ok (.ret (.bool (xs.size == ys.size)))) _
    rw [s1, s2]
    simpa using hq
  | succ c ih =>
    intro i hc hi hk s hJ
    obtain ⟨xs, ys, n, m, hl, hb, s1, s2, one⟩ := turn i s hJ
    have p : i < xs.size := by omega
    have q : i < ys.size := by omega
    have ht := one p q
    rw [allB_step (by omega)] at hk
    obtain ⟨hp, g, d, tk, os⟩ := s
    wp_walk using wpAny_loadPart' hl, wpAny_loadPart' hb
    have o1 : xs[((i : Nat) : Int).toNat]? = some xs[i] := by simp [p]
    have o2 : ys[((i : Nat) : Int).toNat]? = some ys[i] := by simp [q]
    have nx : ((i : Int) + 1) = ((i + 1 : Nat) : Int) := by omega
    rw [o1, o2]
    refine wpAny_bind (wpAny_mono ht (fun r s2 z => ?_) fun _ _ z => z)
    obtain ⟨rfl, hF, hJ2⟩ := z
    cases he : es i with
    | true =>
      rw [he, Bool.true_and] at hk
      have more := ih (i + 1) (by omega) (by omega) hk s2 (hJ2 he)
      obtain ⟨hp2, g2, d2, tk2, os2⟩ := s2
      wp_walk
      rw [nx]
      refine ⟨plainId_quiet plain_eq_loop _, codeAny_builtin entry_eq_loop ?_⟩
      rw [Around.under_plainId plain_eq_loop _]
      exact more
    | false =>
      rw [he, Bool.false_and] at hk
      subst hk
      obtain ⟨xs2, ys2, n2, m2, hl2, hb2, t1, t2⟩ := rd s2 hF
      have hq := fin s2 hF
      obtain ⟨hp2, g2, d2, tk2, os2⟩ := s2
      wp_walk using wpAny_loadPart' hl2, wpAny_loadPart' hb2
      have u1 : xs2[((i : Nat) : Int).toNat]? = some (xs2[i]'(by omega)) := by simp
      have u2 : ys2[((i : Nat) : Int).toNat]? = some (ys2[i]'(by omega)) := by simp
      rw [u1, u2]
      wp_walk
      exact hq
theorem lst_eqB {l b : Addr} {N : Nat} {J : Nat → Shared → Prop} {F : Shared → Prop} {es : Nat → Bool} {k : Bool} (turn : LTurns prog w A (fun e s' => R (.error e) s') l b N es J F) (rd : LRead l b N F) (hJF : ∀ i s, J i s → F s) (fin : ∀ s, F s → R (.ok (.ret (.bool k))) s) (hk : allB N N es 0 = k) {s : Shared} (h : J 0 s) :
    wpAny (model prog w) A.in1 (Builtin.«list.__eq__» ⟨[.ref l, .ref b], []⟩) (GQ.FinOf prog w A R) (fun e s' => R (.error e) s') s := by
  obtain ⟨xs, ys, n, m, hl, hb, s1, s2, _⟩ := turn 0 s h
  have more := lst_loopeqB (A := A) turn rd hJF fin _ 0 rfl (Nat.zero_le _) hk s h
  obtain ⟨hp, g, d, tk, os⟩ := s
  have f3 := AutoSeq1.sub_list_list
  have same : ¬ (xs.size != ys.size) = true := by simp [s1, s2]
  wp_walk using wpAny_loadPart' hl, wpAny_loadPart' hb
  refine ⟨plainId_quiet plain_eq_loop _, codeAny_builtin entry_eq_loop ?_⟩
  rw [Around.under_plainId plain_eq_loop _]
  exact more
theorem lst_loopneB {l b : Addr} {N : Nat} {J : Nat → Shared → Prop} {F : Shared → Prop} {es : Nat → Bool} {k : Bool} (turn : LTurns prog w A (fun e s' => R (.error e) s') l b N es J F) (rd : LRead l b N F) (hJF : ∀ i s, J i s → F s) (fin : ∀ s, F s → R (.ok (.ret (.bool !k))) s) (c : Nat) :
    ∀ i : Nat, N - i = c → i ≤ N → allB N N es i = k → ∀ s, J i s → wpAny (model prog w) A.in1 (Builtin.«list.__eq__.loop» ⟨[.ref l, .ref b, rawInt i, rawInt 3], []⟩) (GQ.FinOf prog w A R) (fun e s' => R (.error e) s') s := by
  induction c with
  | zero =>
    intro i hc hi hk s hJ
    obtain ⟨xs, ys, n, m, hl, hb, s1, s2, _⟩ := turn i s hJ
    have last : i = N := by omega
    have hq := fin s (hJF _ _ hJ)
    rw [allB_end (by omega)] at hk
    subst hk
    obtain ⟨hp, g, d, tk, os⟩ := s
    wp_walk using wpAny_loadPart' hl, wpAny_loadPart' hb
    have o1 : xs[((i : Nat) : Int).toNat]? = none := by simp; omega
    have o2 : ys[((i : Nat) : Int).toNat]? = none := by simp; omega
    rw [o1, o2]
    wp_walk using wpAny_loadPart' hl, wpAny_loadPart' hb
    show R (.ok (.ret (.bool (xs.size != ys.size)))) _
    rw [s1, s2]
    simpa using hq
  | succ c ih =>
    intro i hc hi hk s hJ
    obtain ⟨xs, ys, n, m, hl, hb, s1, s2, one⟩ := turn i s hJ
    have p : i < xs.size := by omega
    have q : i < ys.size := by omega
    have ht := one p q
    rw [allB_step (by omega)] at hk
    obtain ⟨hp, g, d, tk, os⟩ := s
    wp_walk using wpAny_loadPart' hl, wpAny_loadPart' hb
    have o1 : xs[((i : Nat) : Int).toNat]? = some xs[i] := by simp [p]
    have o2 : ys[((i : Nat) : Int).toNat]? = some ys[i] := by simp [q]
    have nx : ((i : Int) + 1) = ((i + 1 : Nat) : Int) := by omega
    rw [o1, o2]
    refine wpAny_bind (wpAny_mono ht (fun r s2 z => ?_) fun _ _ z => z)
    obtain ⟨rfl, hF, hJ2⟩ := z
    cases he : es i with
    | true =>
      rw [he, Bool.true_and] at hk
      have more := ih (i + 1) (by omega) (by omega) hk s2 (hJ2 he)
      obtain ⟨hp2, g2, d2, tk2, os2⟩ := s2
      wp_walk
      rw [nx]
      refine ⟨plainId_quiet plain_eq_loop _, codeAny_builtin entry_eq_loop ?_⟩
      rw [Around.under_plainId plain_eq_loop _]
      exact more
    | false =>
      rw [he, Bool.false_and] at hk
      subst hk
      obtain ⟨xs2, ys2, n2, m2, hl2, hb2, t1, t2⟩ := rd s2 hF
      have hq := fin s2 hF
      obtain ⟨hp2, g2, d2, tk2, os2⟩ := s2
      wp_walk using wpAny_loadPart' hl2, wpAny_loadPart' hb2
      have u1 : xs2[((i : Nat) : Int).toNat]? = some (xs2[i]'(by omega)) := by simp
      have u2 : ys2[((i : Nat) : Int).toNat]? = some (ys2[i]'(by omega)) := by simp
      rw [u1, u2]
      wp_walk
      exact hq
theorem lst_neB {l b : Addr} {N : Nat} {J : Nat → Shared → Prop} {F : Shared → Prop} {es : Nat → Bool} {k : Bool} (turn : LTurns prog w A (fun e s' => R (.error e) s') l b N es J F) (rd : LRead l b N F) (hJF : ∀ i s, J i s → F s) (fin : ∀ s, F s → R (.ok (.ret (.bool !k))) s) (hk : allB N N es 0 = k) {s : Shared} (h : J 0 s) :
    wpAny (model prog w) A.in1 (Builtin.«list.__ne__» ⟨[.ref l, .ref b], []⟩) (GQ.FinOf prog w A R) (fun e s' => R (.error e) s') s := by
  obtain ⟨xs, ys, n, m, hl, hb, s1, s2, _⟩ := turn 0 s h
  have more := lst_loopneB (A := A) turn rd hJF fin _ 0 rfl (Nat.zero_le _) hk s h
  obtain ⟨hp, g, d, tk, os⟩ := s
  have f3 := AutoSeq1.sub_list_list
  have same : ¬ (xs.size != ys.size) = true := by simp [s1, s2]
  wp_walk using wpAny_loadPart' hl, wpAny_loadPart' hb
  refine ⟨plainId_quiet plain_eq_loop _, codeAny_builtin entry_eq_loop ?_⟩
  rw [Around.under_plainId plain_eq_loop _]
  exact more
end
end GE
end PySem
set_option maxHeartbeats 1000000
/-! == and != of tuples and lists of own instances, as rules: which answer is given. -/
namespace GL
open PySem PySem.Spec PyProof.Rows L2
abbrev DB : Type := V → V → Bool → Hp → Prop
def MonB (D : DB) : Prop := ∀ x y b H H', Same H H' → D x y b H → D x y b H'
/-- == inside a builtin gives what D says -/
def EqB (X : Cx) (n : Nat) (D : DB) : Prop :=
  ∀ (A : Around) (pins : List (Addr × Obj)) (s : Shared) (σ : L2.St) (H : Hp) (x y : V) (u v : Value) (b : Bool), Sub X n A → Inv X pins σ H s → L2.RelV x u → L2.RelV y v → D x y b H →
    wpAny (model X.prog X.w) A (eqBool u v) (fun r s' => r = b ∧ ∃ H', Inv X pins σ H' s' ∧ Same H H') X.xe s
/-- == (op = .Eq), != (op = .NotEq) as comparisons; g: what is made of D's word -/
def RcB (X : Cx) (n : Nat) (op : CmpOp) (g : Bool → Bool) (D : DB) : Prop :=
  ∀ (A : Around) (pins : List (Addr × Obj)) (s : Shared) (σ : L2.St) (H : Hp) (x y : V) (u v : Value) (b : Bool), Sub X n A → Inv X pins σ H s → L2.RelV x u → L2.RelV y v → D x y b H →
    wpAny (model X.prog X.w) A (richCompare op u v) (fun r s' => r = .bool (g b) ∧ ∃ H', Inv X pins σ H' s' ∧ Same H H') X.xe s
section
variable {X : Cx} {n m : Nat} {D D' : DB}
theorem EqB.mono (h : EqB X n D) (l : n ≤ m) : EqB X m D := fun A pins s σ H x y u v b sb => h A pins s σ H x y u v b (sb.mono l)
theorem EqB.or (h : EqB X n D) (h' : EqB X n D') : EqB X n (fun x y b H => D x y b H ∨ D' x y b H) := by
  intro A pins s σ H x y u v b sb I rx ry d
  rcases d with d | d
  · exact h A pins s σ H x y u v b sb I rx ry d
  · exact h' A pins s σ H x y u v b sb I rx ry d
theorem MonB.or (h : MonB D) (h' : MonB D') : MonB (fun x y b H => D x y b H ∨ D' x y b H) := fun x y b H H' k d => d.imp (h x y b H H' k) (h' x y b H H' k)
/-- flat things -/
def FlatB : DB := fun x y b _ => flatV x = true ∧ flatV y = true ∧ b = eqV x y
theorem monB_flat : MonB FlatB := fun _ _ _ _ _ _ d => d
theorem eqB_flat : EqB X 0 FlatB := by
  intro A pins s σ H x y u v b sb I rx ry d
  obtain ⟨fx, fy, rfl⟩ := d
  exact eqAt_V (A := A) (s := s) rx ry fx fy X.prog X.w X.xe _ ⟨rfl, H, I, fun _ _ e => e⟩
/-- the same thing is equal to itself -/
theorem RcB.eqB (h : RcB X n .Eq id D) (hr : ∀ x y b H, D x y b H → ∃ a c, x = .ref a ∧ y = .ref c ∧ (a = c → b = true)) : EqB X n D := by
  intro A pins s σ H x y u v b sb I rx ry d
  obtain ⟨a, c, rfl, rfl, same⟩ := hr _ _ _ _ d
  cases (show u = Value.ref a from rx)
  cases (show v = Value.ref c from ry)
  by_cases e : a = c
  · cases e
    rw [same rfl]
    exact SeqAt.EqAt.same (A := A) (s := s) (.ref a) X.prog X.w X.xe _ ⟨rfl, H, I, fun _ _ e => e⟩
  · refine GQ.eqBool_refG e (wpAny_mono (h A pins s σ H (V.ref a) (V.ref c) _ _ b sb I rfl rfl d) (fun r s' z => ?_) fun _ _ z => z)
    obtain ⟨rfl, z⟩ := z
    exact ⟨b, rfl, rfl, z⟩
/-- two instances of one class, by its own __eq__ -/
def InsB (C : Addr) (sp : Sp) (E : XK) : DB := fun x y b H => ∃ a c dx dy fs gs, x = .ref a ∧ y = .ref c ∧ H a = some (.ins C dx fs) ∧ H c = some (.ins C dy gs) ∧ (a = c → b = true) ∧ sp [x, y] H (fun v H' => v = .bl b ∧ Same H H') E
theorem rcB_ins {CX : CXT} {C f : Addr} {sp : Sp} {E : XK} (B : GL.OwnEq X.K C f) (F : FnR X.prog X.w X.K X.mg X.base CX n f sp) (hx : Passes CX X E) : RcB X n .Eq id (InsB C sp E) := by
  intro A pins s σ H x y u v b sb I rx ry d
  obtain ⟨a, c, dx, dy, fs, gs, rfl, rfl, ha, hc, _, q⟩ := d
  cases (show u = Value.ref a from rx)
  cases (show v = Value.ref c from ry)
  obtain ⟨ox, od, J⟩ := inst_of I ha
  obtain ⟨oy, oe, J'⟩ := inst_of I hc
  have e0 : Env0 X.prog X.w X.K X.mg X.base A X.stack s H := by
    have e := I.env0
    exact { e with frames := sb.fr.trans e.frames }
  have run := F A X.stack s H [.ref a, .ref c] [.ref a, .ref c] _ E sb.room e0 (Paired.cons (a := V.ref a) (b := Value.ref a) rfl (Paired.cons (a := V.ref c) (b := Value.ref c) rfl .nil)) q
  have z : wpAny (model X.prog X.w) A (PySem.call (.ref f) [.ref a, .ref c]) (PySem.W.CmpBack fun r s' => r = .bool b ∧ ∃ H', Inv X pins σ H' s' ∧ Same H H') X.xe s := by
    refine wpAny_call (codeAny_mono run fun r s' z => ?_)
    match r, z with
    | .error er, z => exact hx pins σ H s er s' I z
    | .ok .next, z => exact False.elim z
    | .ok .brk, z => exact False.elim z
    | .ok .cont, z => exact False.elim z
    | .ok (.ret w), z =>
      obtain ⟨z1, H', I', rz, rfl, k⟩ := I.after z
      cases (show w = Value.bool b from rz)
      exact ⟨rfl, H', I', k⟩
  rcases s with ⟨hp, g, dd, tk, os⟩
  have e : PySem.W.findIn X.K (.ref C) (cmpInfo .Eq).2.1 = some (some (.ref f)) := B.m.at_
  exact PySem.GO.cmp_any (op := .Eq) (.inl rfl) sb.room.units0 I.kIn J J'.type (by simp [PySem.W.notFirst]) e (PySem.W.bind_fn I.kIn _ (isFn_ty B.m.fn)) z
theorem eqB_ins {CX : CXT} {C f : Addr} {sp : Sp} {E : XK} (B : GL.OwnEq X.K C f) (F : FnR X.prog X.w X.K X.mg X.base CX n f sp) (hx : Passes CX X E) : EqB X n (InsB C sp E) :=
  (rcB_ins B F hx).eqB fun x y b H d => by
    obtain ⟨a, c, dx, dy, fs, gs, e1, e2, _, _, same, _⟩ := d
    exact ⟨a, c, e1, e2, same⟩

/-! ### item by item -/
def ItemsB (D : DB) (xs ys : List V) (es : Nat → Bool) (H : Hp) : Prop := ∀ (i : Nat) x y, (∀ j, j < i → es j = true) → xs[i]? = some x → ys[i]? = some y → D x y (es i) H
/-- as far as the items ahead were equal -/
def LoopB (X : Cx) (pins : List (Addr × Obj)) (σ : L2.St) (H : Hp) (es : Nat → Bool) (i : Nat) (s' : Shared) : Prop := LoopI X pins σ H s' ∧ ∀ j, j < i → es j = true
theorem ItemsB.same (hD : MonB D) {xs ys : List V} {es : Nat → Bool} {H H' : Hp} (k : Same H H') (p : ItemsB D xs ys es H) : ItemsB D xs ys es H' := fun i x y h0 h1 h2 => hD _ _ _ _ _ k (p i x y h0 h1 h2)
theorem one_turn (hD : MonB D) (h : EqB X n D) {A : Around} (sb : Sub X (n + 1) A) {pins : List (Addr × Obj)} {σ : L2.St} {H : Hp} {xs ys : List V} {es : Nat → Bool} {us vs : List Value} (p : ItemsB D xs ys es H) (r : Vals xs us) (r2 : Vals ys vs)
    (i : Nat) (h1 : i < us.toArray.size) (h2 : i < vs.toArray.size) (s' : Shared) (l : LoopB X pins σ H es i s') :
    wpAny (model X.prog X.w) A.in1 (eqBool us.toArray[i] vs.toArray[i]) (fun r s2 => r = es i ∧ LoopI X pins σ H s2 ∧ (es i = true → LoopB X pins σ H es (i + 1) s2)) X.xe s' := by
  obtain ⟨⟨H1, I1, k1⟩, ahead⟩ := l
  have l1 : i < us.length := by simpa using h1
  have l2 : i < vs.length := by simpa using h2
  have m1 : i < xs.length := by rw [r.length]; exact l1
  have m2 : i < ys.length := by rw [r2.length]; exact l2
  obtain ⟨u, hu, ru⟩ := r.get (List.getElem?_eq_getElem m1)
  obtain ⟨v, hv, rv⟩ := r2.get (List.getElem?_eq_getElem m2)
  have eu : us.toArray[i] = u := by
    rw [List.getElem?_eq_getElem l1] at hu
    simpa using Option.some.inj hu
  have ev : vs.toArray[i] = v := by
    rw [List.getElem?_eq_getElem l2] at hv
    simpa using Option.some.inj hv
  rw [eu, ev]
  refine wpAny_mono (h A.in1 pins s' σ H1 _ _ u v _ sb.in1 I1 ru rv (hD _ _ _ _ _ k1 (p i _ _ ahead (List.getElem?_eq_getElem m1) (List.getElem?_eq_getElem m2)))) (fun r s2 z => ?_) fun _ _ z => z
  obtain ⟨rfl, H2, I2, k2⟩ := z
  refine ⟨rfl, ⟨H2, I2, k1.trans k2⟩, fun e => ⟨⟨H2, I2, k1.trans k2⟩, fun j hj => ?_⟩⟩
  by_cases q : j = i
  · rw [q]
    exact e
  · exact ahead j (by omega)
def TupB (K : PySem.W.Frag) (D : DB) : DB := fun x y b H => ∃ a c xs ys es, x = .ref a ∧ y = .ref c ∧ SqT K H a xs ∧ SqT K H c ys ∧ ItemsB D xs ys es H ∧ b = PySem.GE.allB xs.length ys.length es 0
theorem rcB_tup (hD : MonB D) (h : EqB X n D) : RcB X (n + 1) .Eq id (TupB X.K D) := by
  intro A pins s σ H x y u v b sb I rx ry d
  obtain ⟨a, c, xs, ys, es, rfl, rfl, ha, hc, p, rfl⟩ := d
  cases (show u = Value.ref a from rx)
  cases (show v = Value.ref c from ry)
  obtain ⟨us, r, e, z⟩ := I.tuple ha
  obtain ⟨vs, r2, e2, z2⟩ := I.tuple hc
  have s1 : us.toArray.size = xs.length := by rw [List.size_toArray, ← r.length]
  have s2 : vs.toArray.size = ys.length := by rw [List.size_toArray, ← r2.length]
  obtain ⟨⟨cls, dd, data, sl⟩, ho, hc1, k1, hd1⟩ := id e
  obtain ⟨⟨cls2, dd2, data2, sl2⟩, ho2, hc2, k2, hd2⟩ := id e2
  dsimp only at hc1 hd1 hc2 hd2
  subst hc1 hd1 hc2 hd2
  refine wpAny_richCompare_same_room (op := .Eq) ⟨_, ho, rfl⟩ ⟨_, ho2, rfl⟩ F.slot_tuple_eq (GQ.call_here F.slot_tuple_eq ⟨_, ho, rfl⟩ F.entry_tuple_eq (F.args_tuple_eq_2 _ _) ?_) sb.room.units0
  refine PySem.GE.tup_eqB (es := es) (J := LoopB X pins σ H es) (F := LoopI X pins σ H) (fun i h1 h2 s' q => one_turn hD h sb p r r2 i h1 h2 s' q) (fun _ _ q => q.1) (fun s' q => ⟨(fun z => nomatch z), ?_⟩) ho ho2 ⟨⟨H, I, fun _ _ e => e⟩, fun j hj => absurd hj (Nat.not_lt_zero _)⟩
  rw [s1, s2]
  exact ⟨rfl, q⟩
theorem rcN_tup (hD : MonB D) (h : EqB X n D) : RcB X (n + 1) .NotEq not (TupB X.K D) := by
  intro A pins s σ H x y u v b sb I rx ry d
  obtain ⟨a, c, xs, ys, es, rfl, rfl, ha, hc, p, rfl⟩ := d
  cases (show u = Value.ref a from rx)
  cases (show v = Value.ref c from ry)
  obtain ⟨us, r, e, z⟩ := I.tuple ha
  obtain ⟨vs, r2, e2, z2⟩ := I.tuple hc
  have s1 : us.toArray.size = xs.length := by rw [List.size_toArray, ← r.length]
  have s2 : vs.toArray.size = ys.length := by rw [List.size_toArray, ← r2.length]
  obtain ⟨⟨cls, dd, data, sl⟩, ho, hc1, k1, hd1⟩ := id e
  obtain ⟨⟨cls2, dd2, data2, sl2⟩, ho2, hc2, k2, hd2⟩ := id e2
  dsimp only at hc1 hd1 hc2 hd2
  subst hc1 hd1 hc2 hd2
  refine wpAny_richCompare_same_room (op := .NotEq) ⟨_, ho, rfl⟩ ⟨_, ho2, rfl⟩ F.slot_tuple_ne (GQ.call_here F.slot_tuple_ne ⟨_, ho, rfl⟩ F.entry_tuple_ne (F.args_tuple_ne_2 _ _) ?_) sb.room.units0
  refine PySem.GE.tup_neB (es := es) (J := LoopB X pins σ H es) (F := LoopI X pins σ H) (fun i h1 h2 s' q => one_turn hD h sb p r r2 i h1 h2 s' q) (fun _ _ q => q.1) (fun s' q => ⟨(fun z => nomatch z), ?_⟩) ho ho2 ⟨⟨H, I, fun _ _ e => e⟩, fun j hj => absurd hj (Nat.not_lt_zero _)⟩
  rw [s1, s2]
  exact ⟨rfl, q⟩
/-- tuples in tuples -/
def TupS (K : PySem.W.Frag) (D : DB) : DB := fun x y b H => TupB K D x y b H ∧ (x = y → b = true)
theorem eqB_tup (hD : MonB D) (h : EqB X n D) : EqB X (n + 1) (TupS X.K D) := by
  have r : RcB X (n + 1) .Eq id (TupS X.K D) := fun A pins s σ H x y u v b sb I rx ry d => rcB_tup hD h A pins s σ H x y u v b sb I rx ry d.1
  refine r.eqB fun x y b H d => ?_
  obtain ⟨⟨a, c, xs, ys, es, rfl, rfl, _⟩, same⟩ := d
  exact ⟨a, c, rfl, rfl, fun e => same (by rw [e])⟩
theorem monB_tup {K : PySem.W.Frag} (hD : MonB D) : MonB (TupB K D) := by
  intro x y b H H' k d
  obtain ⟨a, c, xs, ys, es, e1, e2, ha, hc, p, e⟩ := d
  exact ⟨a, c, xs, ys, es, e1, e2, ha.ext k, hc.ext k, p.same hD k, e⟩
theorem monB_tupS {K : PySem.W.Frag} (hD : MonB D) : MonB (TupS K D) := fun x y b H H' k d => ⟨monB_tup hD x y b H H' k d.1, d.2⟩
/-- lists of one length, tracked -/
def LstB (D : DB) : DB := fun x y b H => ∃ a c xs ys es, x = .ref a ∧ y = .ref c ∧ H a = some (.lst xs) ∧ H c = some (.lst ys) ∧ xs.length = ys.length ∧ ItemsB D xs ys es H ∧ b = PySem.GE.allB xs.length xs.length es 0
theorem lst_turns (hD : MonB D) (h : EqB X n D) {A : Around} (sb : Sub X (n + 1) A) {pins : List (Addr × Obj)} {σ : L2.St} {H : Hp} {a c : Addr} {xs ys : List V} {es : Nat → Bool} (ha : H a = some (.lst xs)) (hc : H c = some (.lst ys)) (hl : xs.length = ys.length) (p : ItemsB D xs ys es H) :
    PySem.GE.LTurns X.prog X.w A X.xe a c xs.length es (LoopB X pins σ H es) (LoopI X pins σ H) := by
  intro i s' q
  obtain ⟨⟨H1, I1, k1⟩, _⟩ := id q
  obtain ⟨z, us, k, r, e⟩ := I1.hok a _ (k1 _ _ ha)
  obtain ⟨z2, vs, k2, r2, e2⟩ := I1.hok c _ (k1 _ _ hc)
  refine ⟨us.toArray, vs.toArray, k, k2, e, e2, ?_, ?_, fun h1 h2 => one_turn hD h sb p r r2 i h1 h2 s' q⟩
  · rw [List.size_toArray, ← r.length]
  · rw [List.size_toArray, ← r2.length, hl]
theorem lst_read {pins : List (Addr × Obj)} {σ : L2.St} {H : Hp} {a c : Addr} {xs ys : List V} (ha : H a = some (.lst xs)) (hc : H c = some (.lst ys)) (hl : xs.length = ys.length) : PySem.GE.LRead a c xs.length (LoopI X pins σ H) := by
  intro s' q
  obtain ⟨H1, I1, k1⟩ := q
  obtain ⟨z, us, k, r, e⟩ := I1.hok a _ (k1 _ _ ha)
  obtain ⟨z2, vs, k2, r2, e2⟩ := I1.hok c _ (k1 _ _ hc)
  refine ⟨us.toArray, vs.toArray, k, k2, e, e2, ?_, ?_⟩
  · rw [List.size_toArray, ← r.length]
  · rw [List.size_toArray, ← r2.length, hl]
theorem rcB_lst (hD : MonB D) (h : EqB X n D) : RcB X (n + 1) .Eq id (LstB D) := by
  intro A pins s σ H x y u v b sb I rx ry d
  obtain ⟨a, c, xs, ys, es, rfl, rfl, ha, hc, hl, p, rfl⟩ := d
  cases (show u = Value.ref a from rx)
  cases (show v = Value.ref c from ry)
  obtain ⟨z, us, k, r, e⟩ := I.hok a _ ha
  obtain ⟨z2, vs, k2, r2, e2⟩ := I.hok c _ hc
  refine wpAny_richCompare_same_room (op := .Eq) ⟨_, e, rfl⟩ ⟨_, e2, rfl⟩ F.slot_list_eq (GQ.call_here F.slot_list_eq ⟨_, e, rfl⟩ F.entry_list_eq (F.args_list_eq_2 _ _) ?_) sb.room.units0
  exact PySem.GE.lst_eqB (lst_turns hD h sb ha hc hl p) (lst_read ha hc hl) (fun _ _ q => q.1) (fun s' q => ⟨(fun z => nomatch z), rfl, q⟩) rfl ⟨⟨H, I, fun _ _ e => e⟩, fun j hj => absurd hj (Nat.not_lt_zero _)⟩
theorem rcN_lst (hD : MonB D) (h : EqB X n D) : RcB X (n + 1) .NotEq not (LstB D) := by
  intro A pins s σ H x y u v b sb I rx ry d
  obtain ⟨a, c, xs, ys, es, rfl, rfl, ha, hc, hl, p, rfl⟩ := d
  cases (show u = Value.ref a from rx)
  cases (show v = Value.ref c from ry)
  obtain ⟨z, us, k, r, e⟩ := I.hok a _ ha
  obtain ⟨z2, vs, k2, r2, e2⟩ := I.hok c _ hc
  refine wpAny_richCompare_same_room (op := .NotEq) ⟨_, e, rfl⟩ ⟨_, e2, rfl⟩ F.slot_list_ne (GQ.call_here F.slot_list_ne ⟨_, e, rfl⟩ F.entry_list_ne (F.args_list_ne_2 _ _) ?_) sb.room.units0
  exact PySem.GE.lst_neB (lst_turns hD h sb ha hc hl p) (lst_read ha hc hl) (fun _ _ q => q.1) (fun s' q => ⟨(fun z => nomatch z), rfl, q⟩) rfl ⟨⟨H, I, fun _ _ e => e⟩, fun j hj => absurd hj (Nat.not_lt_zero _)⟩
/-! ### as operators -/
def rCmpB (g : Bool → Bool) (D : DB) : R2 := fun x y H Q => ∃ b, D x y b H ∧ ∀ H', Same H H' → Q (.bl (g b)) H'
theorem op_rc {op : CmpOp} {g : Bool → Bool} (hc : ∀ u v : Value, compareOp op u v = richCompare op u v) (h : RcB X n op g D) (hr : Room n X.A) : OpR X (compareOp op) (rCmpB g D) := by
  intro pins s σ H x y v u Q I rx ry hq
  obtain ⟨b, d, q⟩ := hq
  rw [hc]
  refine wpAny_mono (h X.A pins s σ H x y v u b ⟨hr, rfl⟩ I rx ry d) (fun r s' z => ?_) fun _ _ z => z
  obtain ⟨rfl, H', I', k⟩ := z
  exact ⟨.bl (g b), H', I', rfl, q H' k⟩
theorem op_eqT (hD : MonB D) (h : EqB X n D) (hr : Room (n + 1) X.A) : OpR X (compareOp .Eq) (rCmpB id (TupB X.K D)) := op_rc (fun _ _ => rfl) (rcB_tup hD h) hr
theorem op_neT (hD : MonB D) (h : EqB X n D) (hr : Room (n + 1) X.A) : OpR X (compareOp .NotEq) (rCmpB not (TupB X.K D)) := op_rc (fun _ _ => rfl) (rcN_tup hD h) hr
theorem op_eqL (hD : MonB D) (h : EqB X n D) (hr : Room (n + 1) X.A) : OpR X (compareOp .Eq) (rCmpB id (LstB D)) := op_rc (fun _ _ => rfl) (rcB_lst hD h) hr
theorem op_neL (hD : MonB D) (h : EqB X n D) (hr : Room (n + 1) X.A) : OpR X (compareOp .NotEq) (rCmpB not (LstB D)) := op_rc (fun _ _ => rfl) (rcN_lst hD h) hr
end
end GL
set_option maxHeartbeats 1000000
/-! o.f as a target among others; the heap without one thing. -/
namespace GL
open PySem PySem.Spec PyProof.Rows L2
def gFld (K : PySem.W.Frag) (to : TE) (f : Str) : TG := fun y σ H Q => to σ H fun x H2 => ∃ a C dx fs, x = .ref a ∧ H2 a = some (.ins C dx fs) ∧ Cls K C ∧ NoAttr K C f ∧ fs.length < 1000 ∧ Q σ (upd H2 a (.ins C dx (putF f y fs)))
theorem pg_fld {X : Cx} {o : Expr} {to : TE} {f : Str} {pos : Pos} (ho : PE X o to) : PG X (.Attribute o f pos) (gFld X.K to f) := by
  constructor
  intro pins s σ H y u Q I ry h
  refine PySem.W.kas_attr (thn (ho.run pins s σ H _ I h) ?_)
  rintro ov s2 ⟨x, H2, I2, rx, a, C, dx, fs, rfl, ea, c, n, l, q⟩
  cases (show ov = Value.ref a from rx)
  exact setattr_ok I2 ea c n l ry fun s3 I3 => ⟨σ, _, I3, q⟩
/-- all but the thing at w -/
def off (H : Hp) (w : Addr) : Hp := fun a => if a = w then none else H a
theorem off_ne {H : Hp} {w a : Addr} (h : a ≠ w) : off H w a = H a := if_neg h
theorem off_at {H : Hp} {w : Addr} : off H w w = none := if_pos rfl
theorem off_some {H : Hp} {w a : Addr} {o : HO} (h : off H w a = some o) : a ≠ w ∧ H a = some o := by
  by_cases e : a = w
  · rw [e, off_at] at h
    cases h
  · rw [off_ne e] at h
    exact ⟨e, h⟩
theorem off_same {H H' : Hp} {w : Addr} (k : Same (off H w) H') : Same (off H w) (off H' w) := fun a o e => by
  rw [off_ne (off_some e).1]
  exact k a o e
theorem off_upd {H H' : Hp} {w : Addr} {o : HO} (k : Same (off H w) H') : Same (off H w) (upd H' w o) := fun a u e => by
  rw [upd_ne (off_some e).1]
  exact k a u e
theorem off_of {H : Hp} {w a : Addr} {o u : HO} (e : H w = some o) (h : H a = some u) (ne : u ≠ o) : off H w a = some u := by
  rw [off_ne]
  · exact h
  · rintro rfl
    rw [e] at h
    exact ne (Option.some.inj h).symm
theorem off_le {H : Hp} {w : Addr} : Same (off H w) H := fun a o e => (off_some e).2
/-- x(e, ..), x a local that holds a class of the program -/
def tMakeL (i : Nat) (C : Addr) (sp : Sp) (dvs : List V) (E : XK) (t : TA) : TE := fun σ H Q => σ[i]? = some (some (.ref C)) ∧ tMake C sp dvs E t σ H Q
theorem pe_makeL {X : Cx} {CX : CXT} {k i : Nat} {f C : Addr} {fd : FuncData} {ps : List Str} {sp : Sp} {dvs : List V} {ds : List Value} {E : XK} {x : Str} {p pos : Pos} {e : Expr} {es : List Expr} {t : TA} (M : Mk X.K C f) (F : FnOk X.prog X.w X.K X.mg X.base CX k f fd ps sp) (hr : Room (k + 1) X.A)
    (hN : X.N[i]? = some x) (hv : Vis X.env.scope x) (hb : Binds X.K fd ps ds) (hd : Vals dvs ds) (hx : Passes CX X E) (ha : PA X (e :: es) t) (h1 : (x == ("__debug__" : Str)) = false := by decide) (h2 : (x == ("__classdict__" : Str)) = false := by decide)
    (h3 : starEach (e :: es) X.env = (false, eval e X.env) :: starEach es X.env := by rfl) (h4 : (backTo pos (starEach es X.env)).any (·.1) = false := by rfl) : PE X (.Call (.Name x p) (e :: es) [] pos) (tMakeL i C sp dvs E t) := by
  constructor
  intro pins s σ H Q I h
  obtain ⟨at_, h⟩ := h
  apply wpAny_Call_Name_kw
  have name := (pe_var (X := X) (pos := p) hN hv h1 h2).run pins s σ H (fun v H1 => v = .ref C ∧ H1 = H) I ⟨.ref C, at_, rfl, rfl⟩
  refine thn name ?_
  rintro u s1 ⟨v, H1, I1, r1, rfl, rfl⟩
  cases (show u = Value.ref C from r1)
  refine PySem.W.callWith_K (h₀ := X.base) I.ok.mod.kin M.kp (thn (ha.run pos pins s1 σ _ _ I1 h) ?_) h3 h4
  rintro us s2 ⟨vs, H2, I2, r, q⟩
  exact ⟨I2.kIn, run_make M F hr hb hd hx I2 r q⟩
end GL
set_option maxHeartbeats 4000000
/-! x is True; heaps whose tables of code objects grow. -/
namespace GL
open PySem PySem.Spec PyProof.Rows L2
theorem op_isB {X : Cx} : OpR X (compareOp .Is) (fun x y H Q => ∃ a b, x = .bl a ∧ y = .bl b ∧ Q (.bl (a == b)) H) := by
  intro pins s z H x y v u Q I rx ry h
  obtain ⟨a, b, rfl, rfl, q⟩ := h
  cases rx
  cases ry
  cases a <;> cases b <;> exact wpAny_pure (fin_bl I q rfl)
/-- what is not a table -/
def noT (H : Hp) : Hp := fun b => match H b with
  | some (.tbl _) => none
  | o => o
section
variable {H H' : Hp} {b : Addr} {o : HO}
theorem noT_some (e : noT H b = some o) : H b = some o ∧ ∀ ps, o ≠ .tbl ps := by
  unfold noT at e
  split at e
  · cases e
  · rename_i n
    exact ⟨e, fun ps z => n ps (by rw [e, z])⟩
theorem noT_at (e : H b = some o) (n : ∀ ps, o ≠ .tbl ps) : noT H b = some o := by
  unfold noT
  split
  · rename_i z
    rw [e] at z
    cases z
    exact absurd rfl (n _)
  · exact e
theorem extN_same (k : LamX.ExtN H H') : Same (noT H) H' := fun b o e => k b o (noT_some e).1 (noT_some e).2
theorem same_extN (k : Same H H') : LamX.ExtN H H' := fun b o e _ => k b o e
theorem Tabs.same {T : List (Addr × Str)} (t : LamX.Tabs T H) (k : Same H H') : LamX.Tabs T H' := t.ext k
theorem codeO_lst {c : Addr} {q : Str} {xs : List V} : LamX.CodeO c q ≠ .lst xs := fun z => by
  unfold LamX.CodeO at z
  cases z
theorem Tabs.offP {T : List (Addr × Str)} {p : Addr} {xs : List V} (t : LamX.Tabs T H) (e : H p = some (.lst xs)) : LamX.Tabs T (off H p) := fun x hx => by
  obtain ⟨ps, h1, h2, h3⟩ := t x hx
  refine ⟨ps, ?_, h2, fun pos cv hc => ?_⟩
  · rw [off_ne (fun z => by rw [z, e] at h1; cases h1)]
    exact h1
  · obtain ⟨c, e1, e2⟩ := h3 pos cv hc
    refine ⟨c, e1, ?_⟩
    rw [off_ne (fun z => by rw [z, e] at e2; exact codeO_lst (Option.some.inj e2).symm)]
    exact e2
end
end GL
set_option maxHeartbeats 4000000
/-! A law one of whose defs makes lambdas: the table of its code object, in the hook and at the end. -/
namespace GL
open PySem PySem.Spec PyProof.Rows L2
/-- a table in which nothing is yet -/
def isTab (o : Obj) : Bool := match o with
  | ⟨.none, none, .fields vs, sl⟩ => vs.isEmpty && sl.isEmpty
  | _ => false
theorem isTab_eq {o : Obj} (h : isTab o = true) : o = { cls := .none, data := .fields #[] } := by
  unfold isTab at h
  split at h
  · rename_i vs sl
    obtain ⟨h1, h2⟩ := He.ba h
    rw [Array.isEmpty_iff.mp h1, Array.isEmpty_iff.mp h2]
  · cases h
def codeAt (K : PySem.W.Frag) (f : Addr) : Addr := match K.lookup f with
  | some ⟨_, _, .func fd, _⟩ => (match fd.code with | .ref c => c | _ => 0)
  | _ => 0
def tabAt (K : PySem.W.Frag) (c : Addr) : Addr := match K.lookup c with
  | some ⟨_, _, .fields vs, _⟩ => (match (vs[11]? : Option Value) with | some (.ref p) => p | _ => 0)
  | _ => 0
def codeB (K : PySem.W.Frag) (f : Addr) : Bool := (match K.lookup f with
  | some ⟨_, _, .func fd, _⟩ => (match fd.code with | .ref _ => true | _ => false)
  | _ => false) && ((match K.lookup (codeAt K f) with
  | some ⟨.type "code", _, .fields vs, _⟩ => (match (vs[11]? : Option Value) with | some (.ref _) => true | _ => false) && ((match vs.getD 18 .none with | .str _ _ => true | _ => false) && ((match vs.getD 7 .none with | .int _ _ => true | _ => false) &&
      ((match vs.getD 9 .none with | .bool _ => true | _ => false) && (match vs.getD 10 .none with | .int _ _ => true | _ => false))))
  | _ => false) && (!(codeAt K f == tabAt K (codeAt K f)) && (K.lookup (tabAt K (codeAt K f))).isNone))
theorem codeB_ok {K : PySem.W.Frag} {h : Heap} {f : Addr} (KX : K.In h) (b : codeB K f = true) : PySem.W.CodeHd h (codeAt K f) (tabAt K (codeAt K f)) ∧ K.lookup (tabAt K (codeAt K f)) = none ∧
    ∀ oc od fd osl, K.lookup f = some ⟨oc, od, .func fd, osl⟩ → fd.code = .ref (codeAt K f) := by
  obtain ⟨b1, b2⟩ := He.ba b
  obtain ⟨b2, b3⟩ := He.ba b2
  obtain ⟨b3, b4⟩ := He.ba b3
  refine ⟨?_, by simpa using b4, fun oc od fd osl e => ?_⟩
  · have ne : codeAt K f ≠ tabAt K (codeAt K f) := by simpa using b3
    generalize hc : codeAt K f = c at *
    unfold tabAt at ne ⊢
    split at b2
    · rename_i dd vs sl e
      rw [e] at ne ⊢
      dsimp only at ne ⊢
      obtain ⟨c1, c2⟩ := He.ba b2
      obtain ⟨c2, c3⟩ := He.ba c2
      obtain ⟨c3, c4⟩ := He.ba c3
      obtain ⟨c4, c5⟩ := He.ba c4
      split at c1
      · rename_i p ep
        try rw [ep] at ne
        dsimp only at ne
        split at c2
        · rename_i x1 x2 e1
          split at c3
          · rename_i y1 y2 e2
            split at c4
            · rename_i z1 e3
              split at c5
              · rename_i w1 w2 e4
                exact ⟨_, vs, x1, x2, y1, y2, z1, w1, w2, KX _ _ e, rfl, rfl, ep, by rw [Array.getD_eq_getD_getElem?, ep]; rfl, e1, e2, e3, e4, ne⟩
              · cases c5
            · cases c4
          · cases c3
        · cases c2
      · cases c1
    · cases b2
  · unfold codeAt
    rw [e] at b1 ⊢
    dsimp only at b1 ⊢
    split at b1
    · rename_i c ec
      rw [ec]
    · cases b1
/-- as kOfT, without the tables -/
def kOfC (n : Nat) (g : Addr → Option Obj) : PySem.W.Frag := He.frG g ((cStatics :: sysModules :: lvls g n [mainGlobals]).filter fun a => match g a with | some o => !isTab o | none => true)
def tabF (n : Nat) (fr : PySem.W.Frag → Addr) (g : Addr → Option Obj) : PySem.W.Frag := He.frG g [tabAt (kOfC n g) (codeAt (kOfC n g) (fr (kOfC n g)))]
def tabB (K T : PySem.W.Frag) (f : Addr) : Bool := codeB K f && (match T.lookup (tabAt K (codeAt K f)) with | some o => isTab o | none => false)
def obsC (n : Nat) (fa : List He.Fa) (fn : List He.DefD) (fx : List DefX) (ex : PySem.W.Frag → Bool) (fr : PySem.W.Frag → Addr) (g : Addr → Option Obj) : AlZ :=
  (He.obsD fa fn (kOfC n g), (fx.map (fnX (kOfC n g)), fx.all (okX (kOfC n g)) && (ex (kOfC n g) && tabB (kOfC n g) (tabF n fr g) (fr (kOfC n g)))))
def hookC (n : Nat) (fa : List He.Fa) (fn : List He.DefD) (fx : List DefX) (ex : PySem.W.Frag → Bool) (fr : PySem.W.Frag → Addr) : PySem.W.Hook where
  α := AlZ
  obs := fun s => obsC n fa fn fx ex fr s.heap.get?
  val := fun _ => (He.valD fn, (fx.map (fun x : DefX => x.d.val), true))
  says := fun _ h => ∃ K T : PySem.W.Frag, K.In h ∧ T.In h ∧ He.SaysD fa fn K ∧ SaysX fx K ∧ ex K = true ∧ tabB K T (fr K) = true
  of := fun _ s e => by
    have e1 := congrArg (fun z : AlZ => z.1) e
    have e2 := congrArg (fun z : AlZ => z.2.1) e
    have e3 := congrArg (fun z : AlZ => z.2.2) e
    obtain ⟨f1, f2⟩ := He.ba (show (fx.all (okX (kOfC n s.heap.get?)) && (ex (kOfC n s.heap.get?) && tabB (kOfC n s.heap.get?) (tabF n fr s.heap.get?) (fr (kOfC n s.heap.get?)))) = true from e3)
    obtain ⟨f2, f3⟩ := He.ba f2
    exact ⟨kOfC n s.heap.get?, tabF n fr s.heap.get?, He.frG_in, He.frG_in, e1, ⟨e2, f1⟩, f2, f3⟩
  keeps := fun _ _ _ ⟨K, T, hK, hT, c⟩ k => ⟨K, T, PySem.W.Frag.In.keeps hK k, PySem.W.Frag.In.keeps hT k, c⟩
theorem obsC_eq {n : Nat} {fa : List He.Fa} {fn : List He.DefD} {fx : List DefX} {ex : PySem.W.Frag → Bool} {fr : PySem.W.Frag → Addr} {g : Addr → Option Obj} {s : Shared} (h : ∀ a, g a = s.heap.get? a) : obsC n fa fn fx ex fr g = (hookC n fa fn fx ex fr).obs s := by
  have e : g = s.heap.get? := funext h
  rw [e]
  rfl
section
open HandSHeadRun
theorem run_partsC {r : PySem.W.OpenRow} {q : Program} {n : Nat} {fa : List He.Fa} {fn : List He.DefD} {fx : List DefX} {ex : PySem.W.Frag → Bool} {fr : PySem.W.Frag → Addr} {M : Nat} {loose : List PySem.Str} {w : World}
    (h1 : (wholeF (fun p => stepQ (denQ tabQ) p w) fenceQ M r.prog).map (fun x => (looksF r.prog x.1.heap x.2.abs, seenQ q loose (importedModules r.prog.main.body) (fun s => PySem.W.xlAt q [] s && PySem.W.recOk r.toRowW.records s) x.2.abs)) = some (true, PySem.W.openGood q loose))
    (h2 : (wholeF (fun p => stepQ (denQ tabQ) p w) fenceQ M r.prog).map (fun x => He.obsD fa fn (kOfC n (getT x.2))) = some (He.valD fn))
    (h3 : (wholeF (fun p => stepQ (denQ tabQ) p w) fenceQ M r.prog).map (fun x => (fx.map (fnX (kOfC n (getT x.2))), fx.all (okX (kOfC n (getT x.2))) && (ex (kOfC n (getT x.2)) && tabB (kOfC n (getT x.2)) (tabF n fr (getT x.2)) (fr (kOfC n (getT x.2)))))) = some (fx.map (fun x : DefX => x.d.val), true)) :
    RunEqI r q (hookC n fa fn fx ex fr) (fun s => obsC n fa fn fx ex fr (getT s)) M loose w := by
  unfold RunEqI
  cases e : wholeF (fun p => stepQ (denQ tabQ) p w) fenceQ M r.prog with
  | none =>
    rw [e] at h1
    cases h1
  | some x =>
    rw [e] at h1 h2 h3
    have a1 := Option.some.inj h1
    have a2 := Option.some.inj h2
    have a3 := Option.some.inj h3
    obtain ⟨b1, b2⟩ := Prod.mk.inj a1
    refine congrArg some (Prod.ext b1 (Prod.ext b2 ?_))
    exact Prod.ext a2 a3
end
end GL
set_option maxHeartbeats 4000000
/-! As GB, several defs that make lambdas: a table for each. -/
namespace GL
open PySem PySem.Spec PyProof.Rows L2
def tabF2 (n : Nat) (fr : PySem.W.Frag → List Addr) (g : Addr → Option Obj) : PySem.W.Frag := He.frG g ((fr (kOfC n g)).map fun f => tabAt (kOfC n g) (codeAt (kOfC n g) f))
def tabB2 (K T : PySem.W.Frag) (fs : List Addr) : Bool := fs.all fun f => tabB K T f
def obsC2 (n : Nat) (fa : List He.Fa) (fn : List He.DefD) (fx : List DefX) (ex : PySem.W.Frag → Bool) (fr : PySem.W.Frag → List Addr) (g : Addr → Option Obj) : AlZ :=
  (He.obsD fa fn (kOfC n g), (fx.map (fnX (kOfC n g)), fx.all (okX (kOfC n g)) && (ex (kOfC n g) && tabB2 (kOfC n g) (tabF2 n fr g) (fr (kOfC n g)))))
def hookC2 (n : Nat) (fa : List He.Fa) (fn : List He.DefD) (fx : List DefX) (ex : PySem.W.Frag → Bool) (fr : PySem.W.Frag → List Addr) : PySem.W.Hook where
  α := AlZ
  obs := fun s => obsC2 n fa fn fx ex fr s.heap.get?
  val := fun _ => (He.valD fn, (fx.map (fun x : DefX => x.d.val), true))
  says := fun _ h => ∃ K T : PySem.W.Frag, K.In h ∧ T.In h ∧ He.SaysD fa fn K ∧ SaysX fx K ∧ ex K = true ∧ tabB2 K T (fr K) = true
  of := fun _ s e => by
    have e1 := congrArg (fun z : AlZ => z.1) e
    have e2 := congrArg (fun z : AlZ => z.2.1) e
    have e3 := congrArg (fun z : AlZ => z.2.2) e
    obtain ⟨f1, f2⟩ := He.ba (show (fx.all (okX (kOfC n s.heap.get?)) && (ex (kOfC n s.heap.get?) && tabB2 (kOfC n s.heap.get?) (tabF2 n fr s.heap.get?) (fr (kOfC n s.heap.get?)))) = true from e3)
    obtain ⟨f2, f3⟩ := He.ba f2
    exact ⟨kOfC n s.heap.get?, tabF2 n fr s.heap.get?, He.frG_in, He.frG_in, e1, ⟨e2, f1⟩, f2, f3⟩
  keeps := fun _ _ _ ⟨K, T, hK, hT, c⟩ k => ⟨K, T, PySem.W.Frag.In.keeps hK k, PySem.W.Frag.In.keeps hT k, c⟩
theorem obsC2_eq {n : Nat} {fa : List He.Fa} {fn : List He.DefD} {fx : List DefX} {ex : PySem.W.Frag → Bool} {fr : PySem.W.Frag → List Addr} {g : Addr → Option Obj} {s : Shared} (h : ∀ a, g a = s.heap.get? a) : obsC2 n fa fn fx ex fr g = (hookC2 n fa fn fx ex fr).obs s := by
  have e : g = s.heap.get? := funext h
  rw [e]
  rfl
section
open HandSHeadRun
theorem run_partsC2 {r : PySem.W.OpenRow} {q : Program} {n : Nat} {fa : List He.Fa} {fn : List He.DefD} {fx : List DefX} {ex : PySem.W.Frag → Bool} {fr : PySem.W.Frag → List Addr} {M : Nat} {loose : List PySem.Str} {w : World}
    (h1 : (wholeF (fun p => stepQ (denQ tabQ) p w) fenceQ M r.prog).map (fun x => (looksF r.prog x.1.heap x.2.abs, seenQ q loose (importedModules r.prog.main.body) (fun s => PySem.W.xlAt q [] s && PySem.W.recOk r.toRowW.records s) x.2.abs)) = some (true, PySem.W.openGood q loose))
    (h2 : (wholeF (fun p => stepQ (denQ tabQ) p w) fenceQ M r.prog).map (fun x => He.obsD fa fn (kOfC n (getT x.2))) = some (He.valD fn))
    (h3 : (wholeF (fun p => stepQ (denQ tabQ) p w) fenceQ M r.prog).map (fun x => (fx.map (fnX (kOfC n (getT x.2))), fx.all (okX (kOfC n (getT x.2))) && (ex (kOfC n (getT x.2)) && tabB2 (kOfC n (getT x.2)) (tabF2 n fr (getT x.2)) (fr (kOfC n (getT x.2)))))) = some (fx.map (fun x : DefX => x.d.val), true)) :
    RunEqI r q (hookC2 n fa fn fx ex fr) (fun s => obsC2 n fa fn fx ex fr (getT s)) M loose w := by
  unfold RunEqI
  cases e : wholeF (fun p => stepQ (denQ tabQ) p w) fenceQ M r.prog with
  | none =>
    rw [e] at h1
    cases h1
  | some x =>
    rw [e] at h1 h2 h3
    have a1 := Option.some.inj h1
    have a2 := Option.some.inj h2
    have a3 := Option.some.inj h3
    obtain ⟨b1, b2⟩ := Prod.mk.inj a1
    refine congrArg some (Prod.ext b1 (Prod.ext b2 ?_))
    exact Prod.ext a2 a3
end
end GL
set_option maxHeartbeats 0
namespace K18
open PySem PySem.Spec PyProof.Rows L2 GL
def plain (x : Str) (i : Nat) : He.DefD := ⟨(x, none), x, x, defArgs (tp i), defBody (tp i), defScope (tp i), [], []⟩
def fns : List He.DefD := [⟨("InvalidMove", some "__init__"), "__init__", "InvalidMove.__init__", defArgs (inClass (tp 5) 0), defBody (inClass (tp 5) 0), defScope (inClass (tp 5) 0), [], []⟩,
  ⟨("InvalidCount", some "__init__"), "__init__", "InvalidCount.__init__", defArgs (inClass (tp 6) 0), defBody (inClass (tp 6) 0), defScope (inClass (tp 6) 0), [], []⟩,
  ⟨("TooMany", some "__init__"), "__init__", "TooMany.__init__", defArgs (inClass (tp 7) 0), defBody (inClass (tp 7) 0), defScope (inClass (tp 7) 0), [], []⟩,
  plain "is_integer" 11,
  plain "is_number" 13,
  ⟨("Ratio", some "__init__"), "__init__", "Ratio.__init__", defArgs (inClass (tp 14) 0), defBody (inClass (tp 14) 0), defScope (inClass (tp 14) 0), [.int 1], []⟩,
  ⟨("Ratio", some "is_below"), "is_below", "Ratio.is_below", defArgs (inClass (tp 14) 7), defBody (inClass (tp 14) 7), defScope (inClass (tp 14) 7), [], []⟩,
  ⟨("Ratio", some "over"), "over", "Ratio.over", defArgs (inClass (tp 14) 8), defBody (inClass (tp 14) 8), defScope (inClass (tp 14) 8), [], []⟩,
  ⟨("Ratio", some "__add__"), "__add__", "Ratio.__add__", defArgs (inClass (tp 14) 9), defBody (inClass (tp 14) 9), defScope (inClass (tp 14) 9), [], []⟩,
  ⟨("Ratio", some "__sub__"), "__sub__", "Ratio.__sub__", defArgs (inClass (tp 14) 10), defBody (inClass (tp 14) 10), defScope (inClass (tp 14) 10), [], []⟩,
  ⟨("Ratio", some "__mul__"), "__mul__", "Ratio.__mul__", defArgs (inClass (tp 14) 11), defBody (inClass (tp 14) 11), defScope (inClass (tp 14) 11), [], []⟩,
  ⟨("Ratio", some "__eq__"), "__eq__", "Ratio.__eq__", defArgs (inClass (tp 14) 13), defBody (inClass (tp 14) 13), defScope (inClass (tp 14) 13), [], []⟩,
  ⟨("Ratio", some "__repr__"), "__repr__", "Ratio.__repr__", defArgs (inClass (tp 14) 15), defBody (inClass (tp 14) 15), defScope (inClass (tp 14) 15), [], []⟩,
  ⟨("Move", some "__init__"), "__init__", "Move.__init__", defArgs (inClass (tp 18) 0), defBody (inClass (tp 18) 0), defScope (inClass (tp 18) 0), [], []⟩,
  ⟨("Move", some "at"), "at", "Move.at", defArgs (inClass (tp 18) 9), defBody (inClass (tp 18) 9), defScope (inClass (tp 18) 9), [], []⟩,
  ⟨("Move", some "_free"), "_free", "Move._free", defArgs (inClass (tp 18) 10), defBody (inClass (tp 18) 10), defScope (inClass (tp 18) 10), [], []⟩,
  ⟨("Move", some "then"), "then", "Move.then", defArgs (inClass (tp 18) 11), defBody (inClass (tp 18) 11), defScope (inClass (tp 18) 11), [], []⟩,
  ⟨("Move", some "done"), "done", "Move.done", defArgs (inClass (tp 18) 17), defBody (inClass (tp 18) 17), defScope (inClass (tp 18) 17), [], []⟩,
  ⟨("Move", some "_raised"), "_raised", "Move._raised", defArgs (inClass (tp 18) 18), defBody (inClass (tp 18) 18), defScope (inClass (tp 18) 18), [], []⟩,
  ⟨("Move", some "_held"), "_held", "Move._held", defArgs (inClass (tp 18) 19), defBody (inClass (tp 18) 19), defScope (inClass (tp 18) 19), [], []⟩,
  ⟨("Move", some "__eq__"), "__eq__", "Move.__eq__", defArgs (inClass (tp 18) 26), defBody (inClass (tp 18) 26), defScope (inClass (tp 18) 26), [], []⟩,
  plain "_check_divisor" 19,
  plain "_check_part" 20,
  plain "_check_other" 21,
  plain "_law_rng" 23,
  plain "_law_draw" 24,
  plain "_law_choice" 25,
  plain "_law_plain" 26,
  plain "_law_sum" 27,
  plain "_law_less" 28,
  plain "_law_fraction" 29,
  plain "_law_real" 30,
  plain "_law_is" 31,
  plain "_law_over" 32,
  plain "_law_move" 33,
  plain "_law_at" 34,
  plain "_law_made" 35,
  plain "_law_is_move" 36,
  plain "_law_near" 37,
  plain "_law_told" 38,
  plain "_law_then" 39,
  plain "_law_raised" 40,
  plain "_law_then_right" 41,
  plain "_law_done_right" 42,
  plain "_law_refused_right" 43,
  plain "_law_right" 44,
  plain "law" 45]
def fxs : List DefX := [⟨fun K => wrapAt K (He.ga K "Ratio") "of" "classmethod", ⟨("Ratio", some "of"), "of", "Ratio.of", defArgs (inClass (tp 14) 1), defBody (inClass (tp 14) 1), defScope (inClass (tp 14) 1), [], []⟩⟩,
  ⟨fun K => wrapAt K (He.ga K "Ratio") "top" "property", ⟨("Ratio", some "top"), "top", "Ratio.top", defArgs (inClass (tp 14) 4), defBody (inClass (tp 14) 4), defScope (inClass (tp 14) 4), [], []⟩⟩,
  ⟨fun K => wrapAt K (He.ga K "Ratio") "bottom" "property", ⟨("Ratio", some "bottom"), "bottom", "Ratio.bottom", defArgs (inClass (tp 14) 5), defBody (inClass (tp 14) 5), defScope (inClass (tp 14) 5), [], []⟩⟩,
  ⟨fun K => wrapAt K (He.ga K "Move") "divisor" "property", ⟨("Move", some "divisor"), "divisor", "Move.divisor", defArgs (inClass (tp 18) 5), defBody (inClass (tp 18) 5), defScope (inClass (tp 18) 5), [], []⟩⟩,
  ⟨fun K => wrapAt K (He.ga K "Move") "plus" "property", ⟨("Move", some "plus"), "plus", "Move.plus", defArgs (inClass (tp 18) 6), defBody (inClass (tp 18) 6), defScope (inClass (tp 18) 6), [], []⟩⟩,
  ⟨fun K => wrapAt K (He.ga K "Move") "low" "property", ⟨("Move", some "low"), "low", "Move.low", defArgs (inClass (tp 18) 7), defBody (inClass (tp 18) 7), defScope (inClass (tp 18) 7), [], []⟩⟩,
  ⟨fun K => wrapAt K (He.ga K "Move") "high" "property", ⟨("Move", some "high"), "high", "Move.high", defArgs (inClass (tp 18) 8), defBody (inClass (tp 18) 8), defScope (inClass (tp 18) 8), [], []⟩⟩]
def fas : List He.Fa := [.glo "FadeError",
  .glo "InvalidNumber",
  .glo "InvalidMove",
  .glo "InvalidCount",
  .glo "TooMany",
  .glo "is_integer",
  .glo "is_number",
  .glo "Ratio",
  .glo "Move",
  .glo "_check_divisor",
  .glo "_check_part",
  .glo "_check_other",
  .glo "_law_rng",
  .glo "_law_draw",
  .glo "_law_choice",
  .glo "_law_plain",
  .glo "_law_sum",
  .glo "_law_less",
  .glo "_law_fraction",
  .glo "_law_real",
  .glo "_law_is",
  .glo "_law_over",
  .glo "_law_move",
  .glo "_law_at",
  .glo "_law_made",
  .glo "_law_is_move",
  .glo "_law_near",
  .glo "_law_told",
  .glo "_law_then",
  .glo "_law_raised",
  .glo "_law_then_right",
  .glo "_law_done_right",
  .glo "_law_refused_right",
  .glo "_law_right",
  .glo "law",
  .int "MOST_TIMES" 100,
  .free "isinstance",
  .free "int",
  .free "bool",
  .free "len",
  .free "abs",
  .free "max",
  .free "min",
  .free "divmod",
  .free "str",
  .free "list",
  .free "all",
  .free "range",
  .free "tuple",
  .free "repr",
  .free "any",
  .free "zip",
  .cls "Ratio",
  .noat "Ratio" "_top",
  .noat "Ratio" "_bottom",
  .mkr "Ratio",
  .cls "Move",
  .noat "Move" "_divisor",
  .noat "Move" "_plus",
  .noat "Move" "_low",
  .noat "Move" "_high",
  .mkr "Move",
  .meth "Ratio" "is_below",
  .meth "Ratio" "over",
  .meth "Ratio" "__add__",
  .meth "Ratio" "__sub__",
  .meth "Ratio" "__mul__",
  .meth "Ratio" "__eq__",
  .meth "Ratio" "__repr__",
  .meth "Move" "at",
  .meth "Move" "_free",
  .meth "Move" "then",
  .meth "Move" "done",
  .meth "Move" "_raised",
  .meth "Move" "_held",
  .meth "Move" "__eq__"]
def mroB (K : PySem.W.Frag) (C : Addr) : Bool := match PySem.W.clsIn K C with
  | some cd => (match cd.mro with | .ref a :: _ => a == C | _ => false)
  | none => false
def chks (K : PySem.W.Frag) : List Bool := [decide (PySem.W.specialIn K (.builtin "object.__class__") "__get__" = some (some (.builtin "getset_descriptor.__get__"))),
  decide (PySem.W.takesIn K (.builtin "object.__class__") = some true),
  He.eqO (PySem.W.findIn K (.ref (He.ga K "Ratio")) "__class__") (some (some (.builtin "object.__class__"))),
  decide (PySem.W.mroIn K (He.ga K "Ratio") (.type "object") = some true),
  He.eqO (PySem.W.findIn K (.ref (He.ga K "Ratio")) "__ne__") (some (some (.builtin "object.__ne__"))),
  He.eqO (PySem.W.findIn K (.ref (He.ga K "Move")) "__class__") (some (some (.builtin "object.__class__"))),
  decide (PySem.W.mroIn K (He.ga K "Move") (.type "object") = some true),
  He.eqO (PySem.W.findIn K (.ref (He.ga K "Move")) "__ne__") (some (some (.builtin "object.__ne__"))),
  decide (PySem.W.kitOne K (.ref (He.ga K "Ratio")) (.type "int") = some false),
  decide (PySem.W.kitOne K (.type "int") (.ref (He.ga K "Ratio")) = some false),
  He.eqO (PySem.W.findIn K (.ref (He.ga K "Ratio")) "__radd__") (some none),
  He.eqO (PySem.W.findIn K (.ref (He.ga K "Ratio")) "__rsub__") (some none),
  He.eqO (PySem.W.findIn K (.ref (He.ga K "Ratio")) "__rmul__") (some none),
  mroB K (He.ga K "Ratio"),
  decide (PySem.W.subIn K (.type "int") (.ref (He.ga K "Ratio")) = some false),
  propB K (He.ga K "Ratio") "top",
  propB K (He.ga K "Ratio") "bottom",
  propB K (He.ga K "Move") "divisor",
  propB K (He.ga K "Move") "plus",
  propB K (He.ga K "Move") "low",
  propB K (He.ga K "Move") "high",
  cmetB K (He.ga K "Ratio") (.type "type") "of",
  PySem.W.readsIn K (He.ga K "Ratio") (.type "type"),
  He.eqO (PySem.W.specialIn K (.ref (He.ga K "Ratio")) "__getattribute__") (some (some (.builtin "type.__getattribute__"))),
  PySem.W.readsIn K (He.ga K "Move") (.type "type"),
  He.eqO (PySem.W.specialIn K (.ref (He.ga K "Move")) "__getattribute__") (some (some (.builtin "type.__getattribute__"))),
  He.eqO (PySem.W.nsIn K mainGlobals "gcd") (some (some (.builtin "math.gcd"))),
  xcB K (He.ga K "InvalidMove") .ve,
  He.eqO (PySem.W.findIn K (.ref (He.ga K "InvalidMove")) "part") (some none),
  He.eqO (PySem.W.findIn K (.ref (He.ga K "InvalidMove")) "__init__") (some (some (.ref (He.ma K (He.ga K "InvalidMove") "__init__")))),
  decide (PySem.W.typeIn K (.ref (He.ma K (He.ga K "InvalidMove") "__init__")) = some (.type "function")),
  xcB K (He.ga K "InvalidCount") .ve,
  He.eqO (PySem.W.findIn K (.ref (He.ga K "InvalidCount")) "value") (some none),
  He.eqO (PySem.W.findIn K (.ref (He.ga K "InvalidCount")) "__init__") (some (some (.ref (He.ma K (He.ga K "InvalidCount") "__init__")))),
  decide (PySem.W.typeIn K (.ref (He.ma K (He.ga K "InvalidCount") "__init__")) = some (.type "function")),
  xcB K (He.ga K "TooMany") .ve,
  He.eqO (PySem.W.findIn K (.ref (He.ga K "TooMany")) "kind") (some none),
  He.eqO (PySem.W.findIn K (.ref (He.ga K "TooMany")) "__init__") (some (some (.ref (He.ma K (He.ga K "TooMany") "__init__")))),
  decide (PySem.W.typeIn K (.ref (He.ma K (He.ga K "TooMany") "__init__")) = some (.type "function")),
  He.eqO (PySem.W.findIn K (.ref (He.ga K "TooMany")) "limit") (some none),
  !(tabAt K (codeAt K (He.ga K "_law_done_right")) == tabAt K (codeAt K (He.ga K "_law_refused_right"))),
  decide (PySem.W.exmOne K (.ref (He.ga K "InvalidMove")) (.ref (He.ga K "InvalidMove")) = some true),
  decide (PySem.W.exmOne K (.ref (He.ga K "InvalidCount")) (.ref (He.ga K "InvalidMove")) = some false),
  decide (PySem.W.exmOne K (.ref (He.ga K "InvalidCount")) (.ref (He.ga K "InvalidCount")) = some true),
  decide (PySem.W.exmOne K (.ref (He.ga K "TooMany")) (.ref (He.ga K "InvalidMove")) = some false),
  decide (PySem.W.exmOne K (.ref (He.ga K "TooMany")) (.ref (He.ga K "InvalidCount")) = some false),
  decide (PySem.W.exmOne K (.ref (He.ga K "TooMany")) (.ref (He.ga K "TooMany")) = some true),
  decide (PySem.W.kitOne K (.type "NoneType") (.ref (He.ga K "Move")) = some false),
  decide (PySem.W.kitOne K (.type "str") (.ref (He.ga K "Move")) = some false),
  decide (PySem.W.kitOne K (.type "list") (.ref (He.ga K "Move")) = some false),
  decide (PySem.W.kitOne K (.type "tuple") (.ref (He.ga K "Move")) = some false),
  decide (PySem.W.kitOne K (.type "dict") (.ref (He.ga K "Move")) = some false),
  decide (PySem.W.kitOne K (.type "int") (.ref (He.ga K "Move")) = some false)]
def exB (K : PySem.W.Frag) : Bool := sysB K && (chks K).all id
def lamF (K : PySem.W.Frag) : List Addr := [He.ga K "_law_done_right", He.ga K "_law_refused_right"]
end K18
set_option maxHeartbeats 0
namespace K18
open PySem PySem.Spec PyProof.Rows L2 GL
abbrev R : PySem.W.OpenRow := PySem.W.OpenLaw.row PySem.Challenge.rw_fademodes_k13_whole_moves_behind_one_ano
abbrev hk : PySem.W.Hook := hookC2 5 fas fns fxs exB lamF
def ob (s : PySem.W.SharedT) : AlZ := obsC2 5 fas fns fxs exB lamF (HandSHeadRun.getT s)
theorem ob_eq (s : PySem.W.SharedT) : ob s = hk.obs s.abs := obsC2_eq (HandSHeadRun.getT_eq s)
def loose : List PySem.Str := (["_wall", "__name__", "FadeError", "InvalidNumber", "InvalidMove", "InvalidCount", "TooMany", "StateError", "DividedByZero", "is_integer", "is_number", "Ratio", "_ratios_of", "MOST_TIMES", "Move", "_check_divisor", "_check_part", "_check_other", "_law_rng", "_law_draw"] : List PySem.Str) ++ (["_law_choice", "_law_plain", "_law_sum", "_law_less", "_law_fraction", "_law_real", "_law_is", "_law_over", "_law_move", "_law_at", "_law_made", "_law_is_move", "_law_near", "_law_told", "_law_then", "_law_raised", "_law_then_right", "_law_done_right", "_law_refused_right", "_law_right"] : List PySem.Str)
theorem run1 (w : World) : (HandSHeadRun.wholeF (fun p => HandSHeadRun.stepQ (HandSHeadRun.denQ HandSHeadRun.tabQ) p w) HandSHeadRun.fenceQ 20000 R.prog).map (fun x => (HandSHeadRun.looksF R.prog x.1.heap x.2.abs, HandSHeadRun.seenQ (PySem.W.view R.prog [0, 45]) loose (importedModules R.prog.main.body) (fun s => PySem.W.xlAt (PySem.W.view R.prog [0, 45]) [] s && PySem.W.recOk R.toRowW.records s) x.2.abs)) = some (true, PySem.W.openGood (PySem.W.view R.prog [0, 45]) loose) := by
  kernel_rfl
theorem run2 (w : World) : (HandSHeadRun.wholeF (fun p => HandSHeadRun.stepQ (HandSHeadRun.denQ HandSHeadRun.tabQ) p w) HandSHeadRun.fenceQ 20000 R.prog).map (fun x => He.obsD fas fns (kOfC 5 (HandSHeadRun.getT x.2))) = some (He.valD fns) := by
  kernel_rfl
theorem run3 (w : World) : (HandSHeadRun.wholeF (fun p => HandSHeadRun.stepQ (HandSHeadRun.denQ HandSHeadRun.tabQ) p w) HandSHeadRun.fenceQ 20000 R.prog).map (fun x => (fxs.map (fnX (kOfC 5 (HandSHeadRun.getT x.2))), fxs.all (okX (kOfC 5 (HandSHeadRun.getT x.2))) && (exB (kOfC 5 (HandSHeadRun.getT x.2)) && tabB2 (kOfC 5 (HandSHeadRun.getT x.2)) (tabF2 5 lamF (HandSHeadRun.getT x.2)) (lamF (kOfC 5 (HandSHeadRun.getT x.2)))))) = some (fxs.map (fun x : DefX => x.d.val), true) := by
  kernel_rfl
theorem run (w : World) : HandSHeadRun.RunEqI R (PySem.W.view R.prog [0, 45]) hk ob 20000 loose w := run_partsC2 (run1 w) (run2 w) (run3 w)
end K18
set_option maxHeartbeats 4000000
namespace K18
open PySem PySem.Spec PyProof.Rows L2 GL
/-! ### numbers in lowest terms -/
theorem norm {t b : Int} (hb : b ≠ 0) : t.fdiv (if 0 < b then (t.natAbs.gcd b.natAbs : Int) else -(t.natAbs.gcd b.natAbs : Int)) = (Rat.divInt t b).num ∧
    b.fdiv (if 0 < b then (t.natAbs.gcd b.natAbs : Int) else -(t.natAbs.gcd b.natAbs : Int)) = ((Rat.divInt t b).den : Int) := by
  have hg : b.gcd t = t.natAbs.gcd b.natAbs := Nat.gcd_comm _ _
  have g0 : 0 < t.natAbs.gcd b.natAbs := Nat.gcd_pos_of_pos_right _ (Int.natAbs_pos.mpr hb)
  rw [Rat.num_divInt, Rat.den_divInt, if_neg hb, hg]
  generalize hG : t.natAbs.gcd b.natAbs = G at *
  have dT : (G : Int) ∣ t := by
    rw [← hG]
    exact Int.ofNat_dvd_left.mpr (Nat.gcd_dvd_left _ _)
  have dB : (G : Int) ∣ b := by
    rw [← hG]
    exact Int.ofNat_dvd_left.mpr (Nat.gcd_dvd_right _ _)
  obtain ⟨x, rfl⟩ := dT
  obtain ⟨y, rfl⟩ := dB
  have gi : (0 : Int) < (G : Int) := by omega
  have gn : (G : Int) ≠ 0 := by omega
  have y0 : y ≠ 0 := by
    rintro rfl
    exact hb (Int.mul_zero _)
  have e3 : ((((G : Int) * y).natAbs / G : Nat) : Int) = (y.natAbs : Int) := by
    rw [Int.natAbs_mul, Int.natAbs_natCast, Nat.mul_div_cancel_left _ g0]
  rw [e3]
  by_cases hp : 0 < (G : Int) * y
  · have yp : 0 < y := by
      rcases Int.lt_or_gt_of_ne y0 with q | q
      · exact absurd (Int.mul_neg_of_pos_of_neg gi q) (by omega)
      · exact q
    rw [if_pos hp, Int.fdiv_eq_ediv_of_nonneg _ (by omega), Int.fdiv_eq_ediv_of_nonneg _ (by omega), Int.mul_ediv_cancel_left _ gn, Int.mul_ediv_cancel_left _ gn, Int.sign_eq_one_of_pos hp, Int.one_mul, Int.mul_ediv_cancel_left _ gn]
    exact ⟨rfl, by omega⟩
  · have hn : (G : Int) * y < 0 := by
      have : (G : Int) * y ≠ 0 := hb
      omega
    have yn : y < 0 := by
      rcases Int.lt_or_gt_of_ne y0 with q | q
      · exact q
      · exact absurd (Int.mul_pos gi q) hp
    have e1 : ((G : Int) * x).fdiv (-(G : Int)) = -x := by
      rw [← Int.neg_fdiv_neg, Int.neg_neg, Int.fdiv_eq_ediv_of_nonneg _ (by omega), ← Int.mul_neg, Int.mul_ediv_cancel_left _ gn]
    have e2 : ((G : Int) * y).fdiv (-(G : Int)) = -y := by
      rw [← Int.neg_fdiv_neg, Int.neg_neg, Int.fdiv_eq_ediv_of_nonneg _ (by omega), ← Int.mul_neg, Int.mul_ediv_cancel_left _ gn]
    rw [if_neg hp, e1, e2, Int.sign_eq_neg_one_of_neg hn, Int.neg_one_mul, ← Int.mul_neg, Int.mul_ediv_cancel_left _ gn]
    exact ⟨rfl, by omega⟩
/-! ### the class Ratio -/
abbrev aR (K : PySem.W.Frag) : Addr := He.ga K "Ratio"
structure RF (K : PySem.W.Frag) (mg : Str → Option Value) : Prop where
  cl : Cls K (aR K)
  nT : NoAttr K (aR K) "_top"
  nB : NoAttr K (aR K) "_bottom"
  kc : PySem.W.findIn K (.ref (aR K)) "__class__" = some (some (.builtin "object.__class__"))
  sp : PySem.W.specialIn K (.builtin "object.__class__") "__get__" = some (some (.builtin "getset_descriptor.__get__"))
  tk : PySem.W.takesIn K (.builtin "object.__class__") = some true
  ob : PySem.W.mroIn K (aR K) (.type "object") = some true
  ki : PySem.W.kitOne K (.ref (aR K)) (.type "int") = some false
  gR : mg "Ratio" = some (.ref (aR K))
  isi : mg "isinstance" = none
  int : mg "int" = none
  bool : mg "bool" = none
/-- a Ratio at an address -/
def RatAt (K : PySem.W.Frag) (H : Hp) (p : Addr) (q : Rat) : Prop := ∃ dx, H p = some (.ins (aR K) dx [("_top", .int q.num), ("_bottom", .int q.den)])
theorem RatAt.same {K : PySem.W.Frag} {H H' : Hp} {p : Addr} {q : Rat} (h : RatAt K H p q) (k : Same H H') : RatAt K H' p q := by
  obtain ⟨dx, e⟩ := h
  exact ⟨dx, k _ _ e⟩
theorem RatAt.ty {K : PySem.W.Frag} {mg : Str → Option Value} {H : Hp} {p : Addr} {q : Rat} (T : RF K mg) (h : RatAt K H p q) : TyX K H (.ref p) (.ref (aR K)) := by
  obtain ⟨dx, e⟩ := h
  exact .base (.ins e T.cl T.kc T.sp T.tk T.ob)
/-- a NUMBER: a whole number, or a Ratio -/
def NumAt (K : PySem.W.Frag) (H : Hp) (x : V) (q : Rat) : Prop := (∃ i : Int, x = .int i ∧ q = (i : Rat)) ∨ ∃ p, x = .ref p ∧ RatAt K H p q
theorem NumAt.same {K : PySem.W.Frag} {H H' : Hp} {x : V} {q : Rat} (h : NumAt K H x q) (k : Same H H') : NumAt K H' x q := by
  rcases h with h | ⟨p, e, h⟩
  · exact .inl h
  · exact .inr ⟨p, e, h.same k⟩
section
variable {P : Program} {w : World} {K : PySem.W.Frag} {mg : Str → Option Value} {base : Heap}
/-! ### is_integer -/
def spIsInt (K : PySem.W.Frag) : Sp := fun vs H Q _ => ∃ (x : V) (t : Value) (b1 b2 : Bool), vs = [x] ∧ TyX K H x t ∧ PySem.W.kitOne K t (.type "int") = some b1 ∧ (b1 = true → PySem.W.kitOne K t (.type "bool") = some b2) ∧ Q (.bl (b1 && !b2)) H
theorem scIsInt : FnScope ["value"] ["value"] (defScope sIsInt) := ⟨rfl, rfl, rfl, by decide +kernel, rfl, by decide +kernel, by decide +kernel⟩
theorem ok_isInt {f : Addr} {fd : FuncData} (F : Fun K "is_integer" "is_integer" sIsInt f fd) (T : RF K mg) : FnOk P w K mg base CX0 1 f fd ["value"] (spIsInt K) := by
  refine F.ok scIsInt (fun vs H Q E h => ?_) (fun cdv A outer s H vs Q E hr h => ?_)
  · obtain ⟨x, t, b1, b2, rfl, _⟩ := h
    rfl
  · obtain ⟨x, t, b1, b2, rfl, ty, k1, k2, q⟩ := h
    refine ⟨_, pss_one (ps_ret (pe_and (pe_callB call_isi (by rfl) T.isi (by decide +kernel) (pa_cons (pv 0) (pa_cons (pe_bltn (v := .ty "int") (by rfl) T.int (by decide +kernel) rfl) pa_nil)))
      (pe_one (pe_not (pe_callB call_isi (by rfl) T.isi (by decide +kernel) (pa_cons (pv 0) (pa_cons (pe_bltn (v := .ty "bool") (by rfl) T.bool (by decide +kernel) rfl) pa_nil))))))), ?_⟩
    refine ⟨_, rfl, x, .ty "int", t, _, b1, rfl, .ty _, ty, k1, b1, rfl, ?_⟩
    cases b1 with
    | true => exact iteT ⟨_, rfl, x, .ty "bool", t, _, b2, rfl, .ty _, ty, k2 rfl, b2, rfl, q⟩
    | false => exact q
/-! ### is_number -/
def spIsNum (K : PySem.W.Frag) : Sp := fun vs H Q _ => ∃ (x : V) (q : Rat), vs = [x] ∧ NumAt K H x q ∧ Q (.bl true) H
theorem scIsNum : FnScope ["value"] ["value"] (defScope sIsNum) := ⟨rfl, rfl, rfl, by decide +kernel, rfl, by decide +kernel, by decide +kernel⟩
theorem ok_isNum {f fI : Addr} {fd fdI : FuncData} (F : Fun K "is_number" "is_number" sIsNum f fd) (T : RF K mg) (FI : Fun K "is_integer" "is_integer" sIsInt fI fdI) (gI : mg "is_integer" = some (.ref fI)) (bI : Binds K fdI ["value"] []) (kr : PySem.W.kitOne K (.type "int") (.ref (aR K)) = some false) :
    FnOk P w K mg base CX0 2 f fd ["value"] (spIsNum K) := by
  have GI : FnOk P w K mg base CX0 1 fI fdI ["value"] (spIsInt K) := ok_isInt FI T
  refine F.ok scIsNum (fun vs H Q E h => ?_) (fun cdv A outer s H vs Q E hr h => ?_)
  · obtain ⟨x, q, rfl, _⟩ := h
    rfl
  · obtain ⟨x, q, rfl, hx, k⟩ := h
    refine ⟨_, pss_one (ps_ret (pe_or (pe_callB call_isi (by rfl) T.isi (by decide +kernel) (pa_cons (pv 0) (pa_cons (pe_glob (v := .ref (aR K)) rfl T.gR rfl) pa_nil)))
      (pe_one (pe_call GI hr rfl gI FI.kp bI .nil pass0 (pa_cons (pv 0) pa_nil))))), ?_⟩
    rcases hx with ⟨i, rfl, rfl⟩ | ⟨p, rfl, hp⟩
    · refine ⟨_, rfl, .int i, .ref (aR K), .type "int", _, false, rfl, .own _, .base (.int i), kr, false, rfl, ?_⟩
      refine iteF ⟨_, rfl, .int i, .type "int", true, false, rfl, .base (.int i), kit_ty (by decide +kernel), fun _ => kit_ty (by decide +kernel), k⟩
    · exact ⟨_, rfl, .ref p, .ref (aR K), .ref (aR K), _, true, rfl, .own _, hp.ty T, (by unfold PySem.W.kitOne; rw [if_pos (beq_self_eq_true _)]), true, rfl, iteT k⟩
end
end K18
set_option maxHeartbeats 4000000
namespace K18
open PySem PySem.Spec PyProof.Rows L2 GL
theorem ps_never {X : Cx} {st : Stmt} : PS X st (fun _ _ _ => False) := ⟨fun pins s σ H D I h => h.elim⟩
theorem op_fdivZ {X : Cx} : OpR X (binaryOp .FloorDiv) (rI (fun _ j => j ≠ 0 ∧ j.natAbs.log2 < 9000) fun i j => .int (i.fdiv j)) :=
  opI fun i j t u s Q E hc q => floordiv_int hc.1 q (Or.inl (PyProof.noPylong_of_log2 hc.2))
theorem log2_lt {n k : Nat} (h : n < 2 ^ k) (hk : 0 < k) : n.log2 < k := by
  by_cases z : n = 0
  · subst z
    simpa using hk
  · exact (Nat.log2_lt z).mpr h
section
variable {P : Program} {w : World} {K : PySem.W.Frag} {mg : Str → Option Value} {base : Heap}
/-! ### Ratio.__init__ -/
def spRInit (K : PySem.W.Frag) : Sp := fun vs H Q _ => ∃ (a dx : Addr) (t b : Int), vs = [.ref a, .int t, .int b] ∧ b ≠ 0 ∧ b.natAbs < 2 ^ 9000 ∧ H a = some (.ins (aR K) dx []) ∧
  ∀ H', H' a = some (.ins (aR K) dx [("_top", .int (Rat.divInt t b).num), ("_bottom", .int (Rat.divInt t b).den)]) → (∀ c o, c ≠ a → H c = some o → H' c = some o) → Q .non H'
theorem scRInit : FnScope ["self", "top", "bottom", "common"] ["self", "top", "bottom"] (defScope (sRatio 0)) := ⟨rfl, rfl, rfl, by decide +kernel, rfl, by decide +kernel, by decide +kernel⟩
theorem ok_rInit {f fI : Addr} {fd fdI : FuncData} {dv : List V} (F : FunD K "__init__" "Ratio.__init__" (defArgs (sRatio 0)) (defBody (sRatio 0)) (defScope (sRatio 0)) dv [] f fd) (T : RF K mg) (FI : Fun K "is_integer" "is_integer" sIsInt fI fdI) (gI : mg "is_integer" = some (.ref fI)) (bI : Binds K fdI ["value"] []) (gG : mg "gcd" = some (.builtin "math.gcd")) :
    FnOk P w K mg base CX0 2 f fd ["self", "top", "bottom"] (spRInit K) := by
  have GI : FnOk P w K mg base CX0 1 fI fdI ["value"] (spIsInt K) := ok_isInt FI T
  refine F.ok scRInit (fun vs H Q E h => ?_) (fun cdv A outer s H vs Q E hr h => ?_)
  · obtain ⟨a, dx, t, b, rfl, _⟩ := h
    rfl
  · obtain ⟨a, dx, t, b, rfl, hb, hz, ea, k⟩ := h
    refine ⟨_, pss_cons (ps_if (pt_not (pt_val (pe_call GI hr rfl gI FI.kp bI .nil pass0 (pa_cons (pv 1) pa_nil)))) (pss_one ps_never) pss_nil)
      (pss_cons (ps_if (PW.pt (pw_or (pt_not (pt_val (pe_call GI hr rfl gI FI.kp bI .nil pass0 (pa_cons (pv 2) pa_nil)))) (pw_or1 (pt_cmpR op_eq (pv 2) pe_int (nomark _))))) (pss_one ps_never) pss_nil)
      (pss_cons (ps_set (i := 3) scRInit.nd rfl (Or.inl rfl) (pe_ifExp (pt_cmpR op_gt (pv 2) pe_int (nomark _)) (pe_callBfun cr_gcd rfl gG (pa_cons (pv 1) (pa_cons (pv 2) pa_nil))) (pe_un un_neg (pe_callBfun cr_gcd rfl gG (pa_cons (pv 1) (pa_cons (pv 2) pa_nil))))))
      (pss_cons (ps_fld (pv 0) (pe_op op_fdivZ (pv 1) (pv 3)) rfl) (pss_one (ps_fld (pv 0) (pe_op op_fdivZ (pv 2) (pv 3)) rfl))))), ?_⟩
    refine ⟨_, rfl, .int t, .type "int", true, false, rfl, .base (.int t), kit_ty (by decide +kernel), fun _ => kit_ty (by decide +kernel), true, rfl, ?_⟩
    refine iteF ?_
    refine ⟨_, rfl, .int b, .type "int", true, false, rfl, .base (.int b), kit_ty (by decide +kernel), fun _ => kit_ty (by decide +kernel), true, rfl, ?_⟩
    refine iteF ⟨_, rfl, rfl, _, rfl, ?_⟩
    have e0 : decide (V.int b = V.int 0) = false := decide_eq_false fun z => hb (by injection z)
    dsimp only
    rw [e0]
    refine iteF ?_
    have go : ∀ c : Int, c ≠ 0 → c.natAbs.log2 < 9000 → t.fdiv c = (Rat.divInt t b).num → b.fdiv c = ((Rat.divInt t b).den : Int) →
        tSeq (sFld K (tVar 0) (tOp (rI (fun _ j => j ≠ 0 ∧ j.natAbs.log2 < 9000) fun i j => .int (i.fdiv j)) (tVar 1) (tVar 3)) "_top") (sFld K (tVar 0) (tOp (rI (fun _ j => j ≠ 0 ∧ j.natAbs.log2 < 9000) fun i j => .int (i.fdiv j)) (tVar 2) (tVar 3)) "_bottom")
          { nx := fun _ H' => Q .non H', rt := Q } [some (.ref a), some (.int t), some (.int b), some (.int c)] H := by
      intro c c0 cl e1 e2
      refine ⟨_, rfl, _, rfl, _, _, rfl, rfl, ⟨c0, cl⟩, _, rfl, a, _, dx, _, rfl, ea, T.cl, T.nT, (by decide), ?_⟩
      refine ⟨_, rfl, _, rfl, _, _, rfl, rfl, ⟨c0, cl⟩, _, rfl, a, _, dx, _, rfl, upd_same, T.cl, T.nB, (by show 1 < 1000; decide), ?_⟩
      dsimp only
      rw [e1, e2]
      exact k _ upd_same fun c o ne e => by rw [upd_ne ne, upd_ne ne]; exact e
    have N := norm (t := t) hb
    have g0 : 0 < t.natAbs.gcd b.natAbs := Nat.gcd_pos_of_pos_right _ (Int.natAbs_pos.mpr hb)
    have gl : (t.natAbs.gcd b.natAbs).log2 < 9000 := log2_lt (Nat.lt_of_le_of_lt (Nat.gcd_le_right _ (Int.natAbs_pos.mpr hb)) hz) (by decide)
    refine ⟨_, rfl, _, _, rfl, rfl, _, rfl, ?_⟩
    refine ite2 (fun c => ?_) (fun c => ?_)
    · rw [if_pos (of_decide_eq_true c)] at N
      exact ⟨_, rfl, _, rfl, t, b, rfl, go _ (by omega) gl N.1 N.2⟩
    · rw [if_neg fun z => c (decide_eq_true z)] at N
      exact ⟨_, rfl, _, rfl, t, b, rfl, _, rfl, go _ (by omega) (by rw [Int.natAbs_neg]; exact gl) N.1 N.2⟩
end
end K18
set_option maxHeartbeats 4000000
namespace K18
open PySem PySem.Spec PyProof.Rows L2 GL
section
variable {P : Program} {w : World} {K : PySem.W.Frag} {mg : Str → Option Value} {base : Heap}
/-- Ratio.__init__ without a bottom -/
theorem rInit_binds {f : Addr} {fd : FuncData} {i : Int} (F : FunD K "__init__" "Ratio.__init__" (defArgs (sRatio 0)) (defBody (sRatio 0)) (defScope (sRatio 0)) [.int i] [] f fd) :
    ∃ d : Value, Vals [V.int i] [d] ∧ Binds K fd ["self", "top", "bottom"] [d] ∧ Binds K fd ["self", "top", "bottom"] [] := by
  obtain ⟨oc, od, dV, kV, doc, pm, an, cdv, ct, osl, rfl, lk, hcd, hD, hK⟩ := F.ex
  rcases hD with ⟨z, _⟩ | ⟨_, T, o, its, n, rfl, lT, hdata, hv⟩
  · cases z
  cases hv with
  | cons r0 rest =>
    cases rest
    rename_i d
    refine ⟨d, .cons r0 .nil, fun s us kin hl => ?_, fun s us kin hl => ?_⟩
    · have l2 : us.length = 2 := by
        rw [List.length_append] at hl
        exact Nat.succ.inj hl
      match us, l2 with
      | [a, b], _ => exact BindsTo.of_looks fun M => looks_items (its := #[d]) kin lT hdata (.of_pure rfl)
    · have l2 : us.length = 3 := by
        rw [List.append_nil] at hl
        exact hl
      match us, l2 with
      | [a, b, c], _ => exact BindsTo.of_looks fun M => looks_items (its := #[d]) kin lT hdata (.of_pure rfl)
end
end K18
set_option maxHeartbeats 4000000
namespace K18
open PySem PySem.Spec PyProof.Rows L2 GL
/-- Ratio(a, b), its parts at the end of the call -/
theorem made_rat {K : PySem.W.Frag} {H : Hp} {Q : VK} {E : XK} {x dx : Addr} {t b : Int} (hx : H x = none) (hd : H dx = none) (ne : dx ≠ x) (hb : b ≠ 0) (hz : b.natAbs < 2 ^ 9000) (k : ∀ p H', Same H H' → H p = none → RatAt K H' p (Rat.divInt t b) → Q (.ref p) H') :
    spRInit K [.ref x, .int t, .int b] (upd (upd H dx (.own x)) x (.ins (aR K) dx [])) (fun v H2 => v = .non ∧ Q (.ref x) H2) E :=
  ⟨x, dx, t, b, rfl, hb, hz, upd_same, fun H' e kp => ⟨rfl, k x H' (fun c o ec => kp c o (ne_of_none ec hx) (by rw [upd_ne (ne_of_none ec hx), upd_ne (ne_of_none ec hd)]; exact ec)) hx ⟨dx, e⟩⟩⟩
/-- the parts of Ratio that others call -/
structure RG (P : Program) (w : World) (K : PySem.W.Frag) (mg : Str → Option Value) (base : Heap) : Prop where
  T : RF K mg
  kr : PySem.W.kitOne K (.type "int") (.ref (aR K)) = some false
  isInt : ∃ f fd, FnOk P w K mg base CX0 1 f fd ["value"] (spIsInt K) ∧ mg "is_integer" = some (.ref f) ∧ Binds K fd ["value"] [] ∧ PySem.W.keepIn K (.ref f) = true
  mR : ∃ f fd d, Mk K (aR K) f ∧ FnOk P w K mg base CX0 2 f fd ["self", "top", "bottom"] (spRInit K) ∧ Vals [V.int 1] [d] ∧ Binds K fd ["self", "top", "bottom"] [d] ∧ Binds K fd ["self", "top", "bottom"] []
section
variable {P : Program} {w : World} {K : PySem.W.Frag} {mg : Str → Option Value} {base : Heap}
/-! ### Ratio.of -/
def spOf (K : PySem.W.Frag) : Sp := fun vs H Q _ => ∃ (x : V) (q : Rat), vs = [.ref (aR K), x] ∧ NumAt K H x q ∧ ∀ p H', Same H H' → RatAt K H' p q → Q (.ref p) H'
theorem scOf : FnScope ["cls", "number"] ["cls", "number"] (defScope (sRatio 1)) := ⟨rfl, rfl, rfl, by decide +kernel, rfl, by decide +kernel, by decide +kernel⟩
theorem ok_of {f : Addr} {fd : FuncData} (F : FunD K "of" "Ratio.of" (defArgs (sRatio 1)) (defBody (sRatio 1)) (defScope (sRatio 1)) [] [] f fd) (G : RG P w K mg base) : FnOk P w K mg base CX0 4 f fd ["cls", "number"] (spOf K) := by
  obtain ⟨fR, fdR, d, MR, GR, vd, bR, _⟩ := G.mR
  have T := G.T
  refine F.ok scOf (fun vs H Q E h => ?_) (fun cdv A outer s H vs Q E hr h => ?_)
  · obtain ⟨x, q, rfl, _⟩ := h
    rfl
  · obtain ⟨x, q, rfl, hx, k⟩ := h
    refine ⟨_, pss_cons (ps_if (pt_val (pe_callB call_isi (by rfl) T.isi (by decide +kernel) (pa_cons (pv 1) (pa_cons (pe_glob (v := .ref (aR K)) rfl T.gR rfl) pa_nil)))) (pss_one (ps_ret (pv 1))) pss_nil)
      (pss_one (ps_ret (pe_make MR GR hr rfl T.gR bR vd pass0 (pa_cons (pv 1) pa_nil)))), ?_⟩
    rcases hx with ⟨i, rfl, rfl⟩ | ⟨p, rfl, hp⟩
    · refine ⟨_, rfl, .int i, .ref (aR K), .type "int", _, false, rfl, .own _, .base (.int i), G.kr, false, rfl, ?_⟩
      refine iteF ⟨_, rfl, fun x dx hx hd ne => ?_⟩
      refine made_rat hx hd ne (by decide) (by show 1 < 2 ^ 9000; exact Nat.one_lt_two_pow (by decide)) fun p H' kp _ r => k p H' kp ?_
      have e : Rat.divInt i 1 = (i : Rat) := by
        have := Rat.num_divInt_den (i : Rat)
        rw [Rat.num_intCast, Rat.den_intCast] at this
        exact this
      rw [← e]
      exact r
    · exact ⟨_, rfl, .ref p, .ref (aR K), .ref (aR K), _, true, rfl, .own _, hp.ty T, (by unfold PySem.W.kitOne; rw [if_pos (beq_self_eq_true _)]), true, rfl, iteT ⟨_, rfl, k p _ (fun _ _ e => e) hp⟩⟩
end
end K18
set_option maxHeartbeats 4000000
namespace K18
open PySem PySem.Spec PyProof.Rows L2 GL
theorem fnR_of {P : Program} {w : World} {K : PySem.W.Frag} {mg : Str → Option Value} {base : Heap} {CX : CXT} {k : Nat} {f : Addr} {fd : FuncData} {ps : List Str} {sp : Sp} (F : FnOk P w K mg base CX k f fd ps sp) (hb : Binds K fd ps []) : FnR P w K mg base CX k f sp := by
  intro A outer s H us vs Q E hr e0 rv hsp
  have inS : K.In s.heap := e0.mod.kin.keeps fun b o e => (e0.bs b o e).1
  have hl : us.length = ps.length := rv.length.symm.trans (F.len _ _ _ _ hsp)
  have b := hb s us inS (by rw [List.append_nil]; exact hl)
  rw [List.append_nil] at b
  exact F.run A outer s H ⟨us, []⟩ us vs Q E hr e0 b rv hsp
/-- how long the parts are -/
def Sz (n : Nat) (q : Rat) : Prop := q.num.natAbs < 2 ^ n ∧ q.den < 2 ^ n
theorem Sz.mono {n m : Nat} {q : Rat} (h : Sz n q) (k : n ≤ m) : Sz m q := ⟨Nat.lt_of_lt_of_le h.1 (Nat.pow_le_pow_right (by decide) k), Nat.lt_of_lt_of_le h.2 (Nat.pow_le_pow_right (by decide) k)⟩
theorem Sz.den {n : Nat} {q : Rat} (h : Sz n q) : (q.den : Int).natAbs < 2 ^ n := by rw [Int.natAbs_natCast]; exact h.2
def rBelow (q r : Rat) : Bool := decide (q.num * (r.den : Int) < r.num * (q.den : Int))
def rOver (q r : Rat) : Rat := Rat.divInt (q.num * (r.den : Int)) ((q.den : Int) * r.num)
def rAdd (q r : Rat) : Rat := Rat.divInt (q.num * (r.den : Int) + r.num * (q.den : Int)) ((q.den : Int) * (r.den : Int))
def rSub (q r : Rat) : Rat := Rat.divInt (q.num * (r.den : Int) - r.num * (q.den : Int)) ((q.den : Int) * (r.den : Int))
def rMul (q r : Rat) : Rat := Rat.divInt (q.num * r.num) ((q.den : Int) * (r.den : Int))
def rNeg (q : Rat) : Rat := Rat.divInt (-q.num) (q.den : Int)
theorem mul_lt {i j : Int} {n m : Nat} (h : i.natAbs < 2 ^ n) (k : j.natAbs < 2 ^ m) : (i * j).natAbs < 2 ^ (n + m) := by
  rw [Int.natAbs_mul, Nat.pow_add]
  exact Nat.mul_lt_mul'' h k
structure RH (P : Program) (w : World) (K : PySem.W.Frag) (mg : Str → Option Value) (base : Heap) : Prop where
  G : RG P w K mg base
  of : ∃ mc p f, ClX.CRead K (aR K) mc ∧ ClX.CMet K (aR K) mc "of" p f ∧ FnR P w K mg base CX0 4 f (spOf K)
section
variable {P : Program} {w : World} {K : PySem.W.Frag} {mg : Str → Option Value} {base : Heap}
/-! ### is_below -/
def spBelow (K : PySem.W.Frag) : Sp := fun vs H Q _ => ∃ (a : Addr) (y : V) (q r : Rat), vs = [.ref a, y] ∧ RatAt K H a q ∧ NumAt K H y r ∧ Sz 100000 q ∧ Sz 100000 r ∧ ∀ H', Same H H' → Q (.bl (rBelow q r)) H'
theorem scBelow : FnScope ["self", "other", "right"] ["self", "other"] (defScope (sRatio 7)) := ⟨rfl, rfl, rfl, by decide +kernel, rfl, by decide +kernel, by decide +kernel⟩
theorem ok_below {f : Addr} {fd : FuncData} (F : FunD K "is_below" "Ratio.is_below" (defArgs (sRatio 7)) (defBody (sRatio 7)) (defScope (sRatio 7)) [] [] f fd) (R : RH P w K mg base) : FnOk P w K mg base CX0 5 f fd ["self", "other"] (spBelow K) := by
  obtain ⟨mc, pp, fo, cr, cm, GO⟩ := R.of
  have T := R.G.T
  refine F.ok scBelow (fun vs H Q E h => ?_) (fun cdv A outer s H vs Q E hr h => ?_)
  · obtain ⟨a, y, q, r, rfl, _⟩ := h
    rfl
  · obtain ⟨a, y, q, r, rfl, ha, hy, sq, sr, k⟩ := h
    refine ⟨_, pss_cons (ps_set (i := 2) scBelow.nd rfl (Or.inl rfl) (ClX.pe_cmeth (pe_glob (v := .ref (aR K)) rfl T.gR rfl) cr cm GO hr pass0 (pa_cons (pv 1) pa_nil)))
      (pss_one (ps_ret (pe_cmpR op_lt (pe_op op_mulW (pe_fld (pv 0) rfl) (pe_fld (pv 2) rfl)) (pe_op op_mulW (pe_fld (pv 2) rfl) (pe_fld (pv 0) rfl)) (nomark _)))), ?_⟩
    refine ⟨rfl, _, rfl, y, r, rfl, hy, fun p H' kp hp => ?_⟩
    obtain ⟨dx, ea⟩ := ha.same kp
    obtain ⟨dy, ep⟩ := hp
    refine ⟨_, rfl, a, _, dx, _, _, rfl, ea, T.cl, T.nT, rfl, _, rfl, p, _, dy, _, _, rfl, ep, T.cl, T.nB, rfl, _, _, rfl, rfl, wide_mul sq.1 sr.den (by decide) (by decide) (by decide), ?_⟩
    refine ⟨_, rfl, p, _, dy, _, _, rfl, ep, T.cl, T.nT, rfl, _, rfl, a, _, dx, _, _, rfl, ea, T.cl, T.nB, rfl, _, _, rfl, rfl, wide_mul sr.1 sq.den (by decide) (by decide) (by decide), ?_⟩
    exact ⟨_, _, rfl, rfl, k H' kp⟩
end
end K18
set_option maxHeartbeats 4000000
namespace K18
open PySem PySem.Spec PyProof.Rows L2 GL
theorem divInt_sz {t b : Int} {n : Nat} (hb : b ≠ 0) (ht : t.natAbs < 2 ^ n) (hz : b.natAbs < 2 ^ n) : Sz n (Rat.divInt t b) := by
  constructor
  · rw [Rat.num_divInt]
    refine Nat.lt_of_le_of_lt ?_ ht
    rw [Int.natAbs_ediv_of_dvd]
    · refine Nat.le_trans (Nat.div_le_self _ _) ?_
      rw [Int.natAbs_mul, Int.natAbs_sign_of_ne_zero hb, Nat.one_mul]
      exact Nat.le_refl _
    · exact Int.dvd_mul_of_dvd_right (Int.gcd_dvd_right _ _)
  · rw [Rat.den_divInt, if_neg hb]
    exact Nat.lt_of_le_of_lt (Nat.div_le_self _ _) hz
theorem den_ne (q : Rat) : (q.den : Int) ≠ 0 := by
  have := q.den_nz
  omega
section
variable {P : Program} {w : World} {K : PySem.W.Frag} {mg : Str → Option Value} {base : Heap}
/-! ### over -/
def spBin (K : PySem.W.Frag) (g : Rat → Rat → Rat) (C : Rat → Rat → Prop) : Sp := fun vs H Q _ => ∃ (a : Addr) (y : V) (q r : Rat), vs = [.ref a, y] ∧ RatAt K H a q ∧ NumAt K H y r ∧ Sz 4000 q ∧ Sz 4000 r ∧ C q r ∧ ∀ p H', Same H H' → RatAt K H' p (g q r) → Q (.ref p) H'
theorem scOver : FnScope ["self", "other", "right"] ["self", "other"] (defScope (sRatio 8)) := ⟨rfl, rfl, rfl, by decide +kernel, rfl, by decide +kernel, by decide +kernel⟩
theorem ok_over {f : Addr} {fd : FuncData} (F : FunD K "over" "Ratio.over" (defArgs (sRatio 8)) (defBody (sRatio 8)) (defScope (sRatio 8)) [] [] f fd) (R : RH P w K mg base) : FnOk P w K mg base CX0 5 f fd ["self", "other"] (spBin K rOver fun _ r => r.num ≠ 0) := by
  obtain ⟨mc, pp, fo, cr, cm, GO⟩ := R.of
  obtain ⟨fR, fdR, d, MR, GR, vd, _, bR⟩ := R.G.mR
  have T := R.G.T
  refine F.ok scOver (fun vs H Q E h => ?_) (fun cdv A outer s H vs Q E hr h => ?_)
  · obtain ⟨a, y, q, r, rfl, _⟩ := h
    rfl
  · obtain ⟨a, y, q, r, rfl, ha, hy, sq, sr, r0, k⟩ := h
    refine ⟨_, pss_cons (ps_set (i := 2) scOver.nd rfl (Or.inl rfl) (ClX.pe_cmeth (pe_glob (v := .ref (aR K)) rfl T.gR rfl) cr cm GO hr pass0 (pa_cons (pv 1) pa_nil)))
      (pss_cons (ps_if (pt_cmpR op_eq (pe_fld (pv 2) rfl) pe_int (nomark _)) (pss_one ps_never) pss_nil)
      (pss_one (ps_ret (pe_make MR GR (hr.mono (by decide)) rfl T.gR bR .nil pass0 (pa_cons (pe_op op_mulW (pe_fld (pv 0) rfl) (pe_fld (pv 2) rfl)) (pa_cons (pe_op op_mulW (pe_fld (pv 0) rfl) (pe_fld (pv 2) rfl)) pa_nil)))))), ?_⟩
    refine ⟨rfl, _, rfl, y, r, rfl, hy, fun p H' kp hp => ?_⟩
    obtain ⟨dx, ea⟩ := ha.same kp
    obtain ⟨dy, ep⟩ := hp
    refine ⟨_, rfl, p, _, dy, _, _, rfl, ep, T.cl, T.nT, rfl, rfl, _, rfl, ?_⟩
    have e0 : decide (V.int r.num = V.int 0) = false := decide_eq_false fun z => r0 (by injection z)
    dsimp only
    rw [e0]
    refine iteF ?_
    refine ⟨_, rfl, a, _, dx, _, _, rfl, ea, T.cl, T.nT, rfl, _, rfl, p, _, dy, _, _, rfl, ep, T.cl, T.nB, rfl, _, _, rfl, rfl, wide_mul sq.1 sr.den (by decide) (by decide) (by decide), ?_⟩
    refine ⟨_, rfl, a, _, dx, _, _, rfl, ea, T.cl, T.nB, rfl, _, rfl, p, _, dy, _, _, rfl, ep, T.cl, T.nT, rfl, _, _, rfl, rfl, wide_mul sq.den sr.1 (by decide) (by decide) (by decide), ?_⟩
    intro x dz hx hd ne
    have b0 : (q.den : Int) * r.num ≠ 0 := Int.mul_ne_zero (den_ne q) r0
    exact made_rat hx hd ne b0 (Nat.lt_of_lt_of_le (mul_lt sq.den sr.1) (Nat.pow_le_pow_right (by decide) (by decide))) fun p2 H2 kp2 _ hr2 => k p2 H2 (kp.trans kp2) hr2
/-! ### __add__ -/
theorem scAdd : FnScope ["self", "other", "right"] ["self", "other"] (defScope (sRatio 9)) := ⟨rfl, rfl, rfl, by decide +kernel, rfl, by decide +kernel, by decide +kernel⟩
theorem ok_rAdd {f : Addr} {fd : FuncData} (F : FunD K "__add__" "Ratio.__add__" (defArgs (sRatio 9)) (defBody (sRatio 9)) (defScope (sRatio 9)) [] [] f fd) (R : RH P w K mg base) : FnOk P w K mg base CX0 5 f fd ["self", "other"] (spBin K rAdd fun _ _ => True) := by
  obtain ⟨mc, pp, fo, cr, cm, GO⟩ := R.of
  obtain ⟨fR, fdR, d, MR, GR, vd, _, bR⟩ := R.G.mR
  have T := R.G.T
  refine F.ok scAdd (fun vs H Q E h => ?_) (fun cdv A outer s H vs Q E hr h => ?_)
  · obtain ⟨a, y, q, r, rfl, _⟩ := h
    rfl
  · obtain ⟨a, y, q, r, rfl, ha, hy, sq, sr, _, k⟩ := h
    refine ⟨_, pss_cons (ps_set (i := 2) scAdd.nd rfl (Or.inl rfl) (ClX.pe_cmeth (pe_glob (v := .ref (aR K)) rfl T.gR rfl) cr cm GO hr pass0 (pa_cons (pv 1) pa_nil)))
      (pss_one (ps_ret (pe_make MR GR (hr.mono (by decide)) rfl T.gR bR .nil pass0 (pa_cons (pe_op op_add (pe_op op_mulW (pe_fld (pv 0) rfl) (pe_fld (pv 2) rfl)) (pe_op op_mulW (pe_fld (pv 2) rfl) (pe_fld (pv 0) rfl))) (pa_cons (pe_op op_mulW (pe_fld (pv 0) rfl) (pe_fld (pv 2) rfl)) pa_nil))))), ?_⟩
    refine ⟨rfl, _, rfl, y, r, rfl, hy, fun p H' kp hp => ?_⟩
    obtain ⟨dx, ea⟩ := ha.same kp
    obtain ⟨dy, ep⟩ := hp
    refine ⟨_, rfl, a, _, dx, _, _, rfl, ea, T.cl, T.nT, rfl, _, rfl, p, _, dy, _, _, rfl, ep, T.cl, T.nB, rfl, _, _, rfl, rfl, wide_mul sq.1 sr.den (by decide) (by decide) (by decide), ?_⟩
    refine ⟨_, rfl, p, _, dy, _, _, rfl, ep, T.cl, T.nT, rfl, _, rfl, a, _, dx, _, _, rfl, ea, T.cl, T.nB, rfl, _, _, rfl, rfl, wide_mul sr.1 sq.den (by decide) (by decide) (by decide), ?_⟩
    refine ⟨_, _, rfl, rfl, ?_⟩
    refine ⟨_, rfl, a, _, dx, _, _, rfl, ea, T.cl, T.nB, rfl, _, rfl, p, _, dy, _, _, rfl, ep, T.cl, T.nB, rfl, _, _, rfl, rfl, wide_mul sq.den sr.den (by decide) (by decide) (by decide), ?_⟩
    intro x dz hx hd ne
    have b0 : (q.den : Int) * (r.den : Int) ≠ 0 := Int.mul_ne_zero (den_ne q) (den_ne r)
    exact made_rat hx hd ne b0 (Nat.lt_of_lt_of_le (mul_lt sq.den sr.den) (Nat.pow_le_pow_right (by decide) (by decide))) fun p2 H2 kp2 _ hr2 => k p2 H2 (kp.trans kp2) hr2
/-! ### __sub__ -/
theorem scSub : FnScope ["self", "other", "right"] ["self", "other"] (defScope (sRatio 10)) := ⟨rfl, rfl, rfl, by decide +kernel, rfl, by decide +kernel, by decide +kernel⟩
theorem ok_rSub {f : Addr} {fd : FuncData} (F : FunD K "__sub__" "Ratio.__sub__" (defArgs (sRatio 10)) (defBody (sRatio 10)) (defScope (sRatio 10)) [] [] f fd) (R : RH P w K mg base) : FnOk P w K mg base CX0 5 f fd ["self", "other"] (spBin K rSub fun _ _ => True) := by
  obtain ⟨mc, pp, fo, cr, cm, GO⟩ := R.of
  obtain ⟨fR, fdR, d, MR, GR, vd, _, bR⟩ := R.G.mR
  have T := R.G.T
  refine F.ok scSub (fun vs H Q E h => ?_) (fun cdv A outer s H vs Q E hr h => ?_)
  · obtain ⟨a, y, q, r, rfl, _⟩ := h
    rfl
  · obtain ⟨a, y, q, r, rfl, ha, hy, sq, sr, _, k⟩ := h
    refine ⟨_, pss_cons (ps_set (i := 2) scSub.nd rfl (Or.inl rfl) (ClX.pe_cmeth (pe_glob (v := .ref (aR K)) rfl T.gR rfl) cr cm GO hr pass0 (pa_cons (pv 1) pa_nil)))
      (pss_one (ps_ret (pe_make MR GR (hr.mono (by decide)) rfl T.gR bR .nil pass0 (pa_cons (pe_op op_sub (pe_op op_mulW (pe_fld (pv 0) rfl) (pe_fld (pv 2) rfl)) (pe_op op_mulW (pe_fld (pv 2) rfl) (pe_fld (pv 0) rfl))) (pa_cons (pe_op op_mulW (pe_fld (pv 0) rfl) (pe_fld (pv 2) rfl)) pa_nil))))), ?_⟩
    refine ⟨rfl, _, rfl, y, r, rfl, hy, fun p H' kp hp => ?_⟩
    obtain ⟨dx, ea⟩ := ha.same kp
    obtain ⟨dy, ep⟩ := hp
    refine ⟨_, rfl, a, _, dx, _, _, rfl, ea, T.cl, T.nT, rfl, _, rfl, p, _, dy, _, _, rfl, ep, T.cl, T.nB, rfl, _, _, rfl, rfl, wide_mul sq.1 sr.den (by decide) (by decide) (by decide), ?_⟩
    refine ⟨_, rfl, p, _, dy, _, _, rfl, ep, T.cl, T.nT, rfl, _, rfl, a, _, dx, _, _, rfl, ea, T.cl, T.nB, rfl, _, _, rfl, rfl, wide_mul sr.1 sq.den (by decide) (by decide) (by decide), ?_⟩
    refine ⟨_, _, rfl, rfl, ?_⟩
    refine ⟨_, rfl, a, _, dx, _, _, rfl, ea, T.cl, T.nB, rfl, _, rfl, p, _, dy, _, _, rfl, ep, T.cl, T.nB, rfl, _, _, rfl, rfl, wide_mul sq.den sr.den (by decide) (by decide) (by decide), ?_⟩
    intro x dz hx hd ne
    have b0 : (q.den : Int) * (r.den : Int) ≠ 0 := Int.mul_ne_zero (den_ne q) (den_ne r)
    exact made_rat hx hd ne b0 (Nat.lt_of_lt_of_le (mul_lt sq.den sr.den) (Nat.pow_le_pow_right (by decide) (by decide))) fun p2 H2 kp2 _ hr2 => k p2 H2 (kp.trans kp2) hr2
/-! ### __mul__ -/
theorem scMul : FnScope ["self", "other", "right"] ["self", "other"] (defScope (sRatio 11)) := ⟨rfl, rfl, rfl, by decide +kernel, rfl, by decide +kernel, by decide +kernel⟩
theorem ok_rMul {f : Addr} {fd : FuncData} (F : FunD K "__mul__" "Ratio.__mul__" (defArgs (sRatio 11)) (defBody (sRatio 11)) (defScope (sRatio 11)) [] [] f fd) (R : RH P w K mg base) : FnOk P w K mg base CX0 5 f fd ["self", "other"] (spBin K rMul fun _ _ => True) := by
  obtain ⟨mc, pp, fo, cr, cm, GO⟩ := R.of
  obtain ⟨fR, fdR, d, MR, GR, vd, _, bR⟩ := R.G.mR
  have T := R.G.T
  refine F.ok scMul (fun vs H Q E h => ?_) (fun cdv A outer s H vs Q E hr h => ?_)
  · obtain ⟨a, y, q, r, rfl, _⟩ := h
    rfl
  · obtain ⟨a, y, q, r, rfl, ha, hy, sq, sr, _, k⟩ := h
    refine ⟨_, pss_cons (ps_set (i := 2) scMul.nd rfl (Or.inl rfl) (ClX.pe_cmeth (pe_glob (v := .ref (aR K)) rfl T.gR rfl) cr cm GO hr pass0 (pa_cons (pv 1) pa_nil)))
      (pss_one (ps_ret (pe_make MR GR (hr.mono (by decide)) rfl T.gR bR .nil pass0 (pa_cons (pe_op op_mulW (pe_fld (pv 0) rfl) (pe_fld (pv 2) rfl)) (pa_cons (pe_op op_mulW (pe_fld (pv 0) rfl) (pe_fld (pv 2) rfl)) pa_nil))))), ?_⟩
    refine ⟨rfl, _, rfl, y, r, rfl, hy, fun p H' kp hp => ?_⟩
    obtain ⟨dx, ea⟩ := ha.same kp
    obtain ⟨dy, ep⟩ := hp
    refine ⟨_, rfl, a, _, dx, _, _, rfl, ea, T.cl, T.nT, rfl, _, rfl, p, _, dy, _, _, rfl, ep, T.cl, T.nT, rfl, _, _, rfl, rfl, wide_mul sq.1 sr.1 (by decide) (by decide) (by decide), ?_⟩
    refine ⟨_, rfl, a, _, dx, _, _, rfl, ea, T.cl, T.nB, rfl, _, rfl, p, _, dy, _, _, rfl, ep, T.cl, T.nB, rfl, _, _, rfl, rfl, wide_mul sq.den sr.den (by decide) (by decide) (by decide), ?_⟩
    intro x dz hx hd ne
    have b0 : (q.den : Int) * (r.den : Int) ≠ 0 := Int.mul_ne_zero (den_ne q) (den_ne r)
    exact made_rat hx hd ne b0 (Nat.lt_of_lt_of_le (mul_lt sq.den sr.den) (Nat.pow_le_pow_right (by decide) (by decide))) fun p2 H2 kp2 _ hr2 => k p2 H2 (kp.trans kp2) hr2
end
end K18
set_option maxHeartbeats 4000000
namespace K18
open PySem PySem.Spec PyProof.Rows L2 GL
section
variable {P : Program} {w : World} {K : PySem.W.Frag} {mg : Str → Option Value} {base : Heap}
/-! ### __neg__ -/
def spNeg (K : PySem.W.Frag) : Sp := fun vs H Q _ => ∃ (a : Addr) (q : Rat), vs = [.ref a] ∧ RatAt K H a q ∧ Sz 4000 q ∧ ∀ p H', Same H H' → RatAt K H' p (rNeg q) → Q (.ref p) H'
theorem scNeg : FnScope ["self"] ["self"] (defScope (sRatio 12)) := ⟨rfl, rfl, rfl, by decide +kernel, rfl, by decide +kernel, by decide +kernel⟩
theorem ok_rNeg {f : Addr} {fd : FuncData} (F : FunD K "__neg__" "Ratio.__neg__" (defArgs (sRatio 12)) (defBody (sRatio 12)) (defScope (sRatio 12)) [] [] f fd) (G : RG P w K mg base) : FnOk P w K mg base CX0 4 f fd ["self"] (spNeg K) := by
  obtain ⟨fR, fdR, d, MR, GR, vd, _, bR⟩ := G.mR
  have T := G.T
  refine F.ok scNeg (fun vs H Q E h => ?_) (fun cdv A outer s H vs Q E hr h => ?_)
  · obtain ⟨a, q, rfl, _⟩ := h
    rfl
  · obtain ⟨a, q, rfl, ⟨dx, ea⟩, sq, k⟩ := h
    refine ⟨_, pss_one (ps_ret (pe_make MR GR hr rfl T.gR bR .nil pass0 (pa_cons (pe_un un_neg (pe_fld (pv 0) rfl)) (pa_cons (pe_fld (pv 0) rfl) pa_nil)))), ?_⟩
    refine ⟨_, rfl, a, _, dx, _, _, rfl, ea, T.cl, T.nT, rfl, _, rfl, _, rfl, a, _, dx, _, _, rfl, ea, T.cl, T.nB, rfl, ?_⟩
    intro x dz hx hd ne
    exact made_rat hx hd ne (den_ne q) (Nat.lt_of_lt_of_le sq.den (Nat.pow_le_pow_right (by decide) (by decide))) fun p2 H2 kp2 _ hr2 => k p2 H2 kp2 hr2
/-! ### __eq__ -/
def spREq (K : PySem.W.Frag) : Sp := fun vs H Q _ => ∃ (a : Addr) (y : V) (q : Rat), vs = [.ref a, y] ∧ RatAt K H a q ∧
  ((∃ b r, y = .ref b ∧ RatAt K H b r ∧ Q (.bl (decide (q = r))) H) ∨ ∃ t, TyX K H y t ∧ PySem.W.kitOne K t (.ref (aR K)) = some false ∧ Q (.bl false) H)
theorem scREq : FnScope ["self", "other"] ["self", "other"] (defScope (sRatio 13)) := ⟨rfl, rfl, rfl, by decide +kernel, rfl, by decide +kernel, by decide +kernel⟩
theorem ok_rEq {f : Addr} {fd : FuncData} (F : FunD K "__eq__" "Ratio.__eq__" (defArgs (sRatio 13)) (defBody (sRatio 13)) (defScope (sRatio 13)) [] [] f fd) (T : RF K mg) : FnOk P w K mg base CX0 1 f fd ["self", "other"] (spREq K) := by
  refine F.ok scREq (fun vs H Q E h => ?_) (fun cdv A outer s H vs Q E hr h => ?_)
  · obtain ⟨a, y, q, rfl, _⟩ := h
    rfl
  · obtain ⟨a, y, q, rfl, ha, h⟩ := h
    refine ⟨_, pss_one (ps_ret (pe_and (pe_callB call_isi (by rfl) T.isi (by decide +kernel) (pa_cons (pv 1) (pa_cons (pe_glob (v := .ref (aR K)) rfl T.gR rfl) pa_nil)))
      (pe_and (pe_cmpR op_eq (pe_fld (pv 0) rfl) (pe_fld (pv 1) rfl) (nomark _)) (pe_one (pe_cmpR op_eq (pe_fld (pv 0) rfl) (pe_fld (pv 1) rfl) (nomark _)))))), ?_⟩
    rcases h with ⟨b, r, rfl, hb, k⟩ | ⟨t, ty, kt, k⟩
    · refine ⟨_, rfl, .ref b, .ref (aR K), .ref (aR K), _, true, rfl, .own _, hb.ty T, (by unfold PySem.W.kitOne; rw [if_pos (beq_self_eq_true _)]), true, rfl, iteT ?_⟩
      obtain ⟨dx, ea⟩ := ha
      obtain ⟨dy, eb⟩ := hb
      refine ⟨_, rfl, a, _, dx, _, _, rfl, ea, T.cl, T.nT, rfl, _, rfl, b, _, dy, _, _, rfl, eb, T.cl, T.nT, rfl, rfl, _, rfl, ?_⟩
      refine ite2 (fun c => ?_) (fun c => ?_)
      · have c1 : q.num = r.num := by
          have := of_decide_eq_true c
          injection this
        refine ⟨_, rfl, a, _, dx, _, _, rfl, ea, T.cl, T.nB, rfl, _, rfl, b, _, dy, _, _, rfl, eb, T.cl, T.nB, rfl, rfl, ?_⟩
        have e : decide (V.int (q.den : Int) = V.int (r.den : Int)) = decide (q = r) := by
          rw [decide_eq_decide]
          constructor
          · intro z
            injection z with z
            exact Rat.ext c1 (by omega)
          · rintro rfl
            rfl
        rw [e]
        exact k
      · have e : decide (q = r) = false := by
          refine decide_eq_false ?_
          rintro rfl
          exact c (decide_eq_true rfl)
        rw [e] at k
        exact k
    · exact ⟨_, rfl, y, .ref (aR K), t, _, false, rfl, .own _, ty, kt, false, rfl, iteF k⟩
/-! ### sign -/
end
end K18
set_option maxHeartbeats 4000000
namespace K18
open PySem PySem.Spec PyProof.Rows L2 GL
/-- more parts of Ratio -/
structure RI (P : Program) (w : World) (K : PySem.W.Frag) (mg : Str → Option Value) (base : Heap) : Prop where
  R : RH P w K mg base
  isNum : ∃ f fd, FnOk P w K mg base CX0 2 f fd ["value"] (spIsNum K) ∧ mg "is_number" = some (.ref f) ∧ Binds K fd ["value"] [] ∧ PySem.W.keepIn K (.ref f) = true
  below : ∃ f fd, Meth K (aR K) "is_below" f ∧ FnOk P w K mg base CX0 5 f fd ["self", "other"] (spBelow K) ∧ Binds K fd ["self", "other"] []
  eq : ∃ f, OwnEq K (aR K) f ∧ FnR P w K mg base CX0 1 f (spREq K)
  len : mg "len" = none
  tuple : mg "tuple" = none
/-- a cut: a NUMBER, and whether it is just above -/
def CutAt (K : PySem.W.Frag) (H : Hp) (x : V) (q : Rat) (b : Bool) : Prop := ∃ c v, x = .ref c ∧ H c = some (.tup [v, .bl b]) ∧ NumAt K H v q
theorem CutAt.same {K : PySem.W.Frag} {H H' : Hp} {x : V} {q : Rat} {b : Bool} (h : CutAt K H x q b) (k : Same H H') : CutAt K H' x q b := by
  obtain ⟨c, v, e, hc, hv⟩ := h
  exact ⟨c, v, e, k _ _ hc, hv.same k⟩
section
variable {P : Program} {w : World} {K : PySem.W.Frag} {mg : Str → Option Value} {base : Heap}
/-! ### is_cut -/
/-! ### ratio_cut -/
end
end K18
set_option maxHeartbeats 4000000
namespace K18
open PySem PySem.Spec PyProof.Rows L2 GL
/-- what the functions on cuts call -/
structure RJ (P : Program) (w : World) (K : PySem.W.Frag) (mg : Str → Option Value) (base : Heap) : Prop where
  I : RI P w K mg base
section
variable {P : Program} {w : World} {K : PySem.W.Frag} {mg : Str → Option Value} {base : Heap}
/-! ### is_above -/
/-! ### precedes -/
/-! ### is_ahead -/
end
end K18
set_option maxHeartbeats 4000000
namespace K18
open PySem PySem.Spec PyProof.Rows L2 GL
theorem rAdd_sz {q r : Rat} {n : Nat} (h : Sz n q) (k : Sz n r) : Sz (n + n + 1) (rAdd q r) := by
  refine divInt_sz (Int.mul_ne_zero (den_ne q) (den_ne r)) ?_ (Nat.lt_of_lt_of_le (mul_lt h.den k.den) (Nat.pow_le_pow_right (by decide) (by omega)))
  have a := mul_lt h.1 k.den
  have b := mul_lt k.1 h.den
  have c := Int.natAbs_add_le (q.num * (r.den : Int)) (r.num * (q.den : Int))
  rw [Nat.pow_succ]
  omega
/-- the parts of the program that deal with cuts -/
structure RK (P : Program) (w : World) (K : PySem.W.Frag) (mg : Str → Option Value) (base : Heap) : Prop where
  J : RJ P w K mg base
  add : ∃ f, OwnBin K (aR K) .Add f ∧ FnR P w K mg base CX0 5 f (spBin K rAdd fun _ _ => True)
  over : ∃ f fd, Meth K (aR K) "over" f ∧ FnOk P w K mg base CX0 5 f fd ["self", "other"] (spBin K rOver fun _ r => r.num ≠ 0) ∧ Binds K fd ["self", "other"] []
section
variable {P : Program} {w : World} {K : PySem.W.Frag} {mg : Str → Option Value} {base : Heap}
/-! ### is_stretch -/
/-! ### is_within -/
end
end K18
set_option maxHeartbeats 4000000
namespace K18
open PySem PySem.Spec PyProof.Rows L2 GL
theorem ins_fs {C D d e : Addr} {fs gs : List (Str × V)} (h : some (HO.ins C d fs) = some (HO.ins D e gs)) : fs = gs := by
  injection h with h
  injection h
section
variable {P : Program} {w : World} {K : PySem.W.Frag} {mg : Str → Option Value} {base : Heap}
/-! ### Range.__init__ -/
end
end K18
set_option maxHeartbeats 4000000
namespace K18
open PySem PySem.Spec PyProof.Rows L2 GL
/-- the parts of Range that others call -/
structure RL (P : Program) (w : World) (K : PySem.W.Frag) (mg : Str → Option Value) (base : Heap) : Prop where
  C : RK P w K mg base
section
variable {P : Program} {w : World} {K : PySem.W.Frag} {mg : Str → Option Value} {base : Heap}
/-! ### is_inner -/
/-! ### fit -/
end
end K18
set_option maxHeartbeats 4000000
namespace K18
open PySem PySem.Spec PyProof.Rows L2 GL
abbrev sMove (j : Nat) : Stmt := inClass (tp 18) j
abbrev aM (K : PySem.W.Frag) : Addr := He.ga K "Move"
abbrev sChkDiv : Stmt := tp 19
abbrev sChkPart : Stmt := tp 20
structure MF (K : PySem.W.Frag) (mg : Str → Option Value) : Prop where
  cl : Cls K (aM K)
  nD : NoAttr K (aM K) "_divisor"
  nP : NoAttr K (aM K) "_plus"
  nL : NoAttr K (aM K) "_low"
  nH : NoAttr K (aM K) "_high"
  kc : PySem.W.findIn K (.ref (aM K)) "__class__" = some (some (.builtin "object.__class__"))
  sp : PySem.W.specialIn K (.builtin "object.__class__") "__get__" = some (some (.builtin "getset_descriptor.__get__"))
  tk : PySem.W.takesIn K (.builtin "object.__class__") = some true
  ob : PySem.W.mroIn K (aM K) (.type "object") = some true
  gM : mg "Move" = some (.ref (aM K))
/-- all but one thing stand -/
def Kp (s : Addr) (H H' : Hp) : Prop := ∀ c o, c ≠ s → H c = some o → H' c = some o
theorem Kp.put {s : Addr} {H H' : Hp} {o : HO} (k : Kp s H H') : Kp s H (upd H' s o) := fun c o' hc e => by rw [upd_ne hc]; exact k c o' hc e
theorem Kp.same {s : Addr} {H H' H'' : Hp} (k : Kp s H H') (j : Same H' H'') : Kp s H H'' := fun c o' hc e => j _ _ (k c o' hc e)
theorem notRat {K : PySem.W.Frag} {H : Hp} {s C dx a : Addr} {fs : List (Str × V)} {q : Rat} (e : H s = some (.ins C dx fs)) (hf : fs.lookup ("_top" : Str) = none) (h : RatAt K H a q) : a ≠ s := by
  obtain ⟨da, ea⟩ := h
  rintro rfl
  rw [e] at ea
  have z := ins_fs ea
  rw [z] at hf
  cases hf
theorem RatAt.kp {K : PySem.W.Frag} {H H' : Hp} {s a : Addr} {q : Rat} (h : RatAt K H a q) (ne : a ≠ s) (k : Kp s H H') : RatAt K H' a q := by
  obtain ⟨da, ea⟩ := h
  exact ⟨da, k _ _ ne ea⟩
theorem NumAt.kp {K : PySem.W.Frag} {H H' : Hp} {s C dx : Addr} {fs : List (Str × V)} {x : V} {q : Rat} (h : NumAt K H x q) (e : H s = some (.ins C dx fs)) (hf : fs.lookup ("_top" : Str) = none) (k : Kp s H H') : NumAt K H' x q := by
  rcases h with h | ⟨p, ex, hp⟩
  · exact .inl h
  · exact .inr ⟨p, ex, hp.kp (notRat e hf hp) k⟩
/-- a Move at an address -/
def MovAt (K : PySem.W.Frag) (H : Hp) (p : Addr) (d : Int) (u lo hi : Rat) : Prop := 1 ≤ d ∧ rBelow hi lo = false ∧ ∃ dx a b c, H p = some (.ins (aM K) dx [("_divisor", .int d), ("_plus", .ref a), ("_low", .ref b), ("_high", .ref c)]) ∧ RatAt K H a u ∧ RatAt K H b lo ∧ RatAt K H c hi
theorem MovAt.same {K : PySem.W.Frag} {H H' : Hp} {p : Addr} {d : Int} {u lo hi : Rat} (h : MovAt K H p d u lo hi) (k : Same H H') : MovAt K H' p d u lo hi := by
  obtain ⟨d1, l, dx, a, b, c, e, ha, hb, hc⟩ := h
  exact ⟨d1, l, dx, a, b, c, k _ _ e, ha.same k, hb.same k, hc.same k⟩
theorem MovAt.ty {K : PySem.W.Frag} {mg : Str → Option Value} {H : Hp} {p : Addr} {d : Int} {u lo hi : Rat} (T : MF K mg) (h : MovAt K H p d u lo hi) : TyX K H (.ref p) (.ref (aM K)) := by
  obtain ⟨_, _, dx, a, b, c, e, _⟩ := h
  exact .base (.ins e T.cl T.kc T.sp T.tk T.ob)
section
variable {P : Program} {w : World} {K : PySem.W.Frag} {mg : Str → Option Value} {base : Heap}
/-! ### the checks -/
def spChkDiv : Sp := fun vs H Q _ => ∃ d : Int, vs = [.int d] ∧ 1 ≤ d ∧ Q .non H
theorem scChkDiv : FnScope ["value"] ["value"] (defScope sChkDiv) := ⟨rfl, rfl, rfl, by decide +kernel, rfl, by decide +kernel, by decide +kernel⟩
theorem ok_chkDiv {f : Addr} {fd : FuncData} (F : Fun K "_check_divisor" "_check_divisor" sChkDiv f fd) (G : RG P w K mg base) : FnOk P w K mg base CX0 2 f fd ["value"] spChkDiv := by
  obtain ⟨fI, fdI, GI, gI, bI, kI⟩ := G.isInt
  refine F.ok scChkDiv (fun vs H Q E h => ?_) (fun cdv A outer s H vs Q E hr h => ?_)
  · obtain ⟨d, rfl, _⟩ := h
    rfl
  · obtain ⟨d, rfl, d1, k⟩ := h
    refine ⟨_, pss_one (ps_if (PW.pt (pw_or (pt_not (pt_val (pe_call GI hr rfl gI kI bI .nil pass0 (pa_cons (pv 0) pa_nil)))) (pw_or1 (pt_cmpR op_lt (pv 0) pe_int (nomark _))))) (pss_one ps_never) pss_nil), ?_⟩
    refine ⟨_, rfl, .int d, .type "int", true, false, rfl, .base (.int d), kit_ty (by decide +kernel), fun _ => kit_ty (by decide +kernel), true, rfl, ?_⟩
    refine iteF ⟨_, rfl, _, _, rfl, rfl, _, rfl, ?_⟩
    have e0 : decide (d < 1) = false := decide_eq_false (by omega)
    dsimp only
    rw [e0]
    exact iteF k
def spChkPart (K : PySem.W.Frag) : Sp := fun vs H Q _ => ∃ (n x : V) (q : Rat), vs = [n, x] ∧ NumAt K H x q ∧ Q .non H
theorem scChkPart : FnScope ["name", "value"] ["name", "value"] (defScope sChkPart) := ⟨rfl, rfl, rfl, by decide +kernel, rfl, by decide +kernel, by decide +kernel⟩
theorem ok_chkPart {f : Addr} {fd : FuncData} (F : Fun K "_check_part" "_check_part" sChkPart f fd) (I : RI P w K mg base) : FnOk P w K mg base CX0 3 f fd ["name", "value"] (spChkPart K) := by
  obtain ⟨fN, fdN, GN, gN, bN, kN⟩ := I.isNum
  refine F.ok scChkPart (fun vs H Q E h => ?_) (fun cdv A outer s H vs Q E hr h => ?_)
  · obtain ⟨n, x, q, rfl, _⟩ := h
    rfl
  · obtain ⟨n, x, q, rfl, hx, k⟩ := h
    refine ⟨_, pss_one (ps_if (pt_not (pt_val (pe_call GN hr rfl gN kN bN .nil pass0 (pa_cons (pv 1) pa_nil)))) (pss_one ps_never) pss_nil), ?_⟩
    exact ⟨_, rfl, x, q, rfl, hx, true, rfl, iteF k⟩
end
end K18
set_option maxHeartbeats 4000000
namespace K18
open PySem PySem.Spec PyProof.Rows L2 GL
/-- what Move calls -/
structure RM (P : Program) (w : World) (K : PySem.W.Frag) (mg : Str → Option Value) (base : Heap) : Prop where
  L : RL P w K mg base
  T : MF K mg
  chkD : ∃ f fd, FnOk P w K mg base CX0 2 f fd ["value"] spChkDiv ∧ mg "_check_divisor" = some (.ref f) ∧ Binds K fd ["value"] [] ∧ PySem.W.keepIn K (.ref f) = true
  chkP : ∃ f fd, FnOk P w K mg base CX0 3 f fd ["name", "value"] (spChkPart K) ∧ mg "_check_part" = some (.ref f) ∧ Binds K fd ["name", "value"] [] ∧ PySem.W.keepIn K (.ref f) = true
section
variable {P : Program} {w : World} {K : PySem.W.Frag} {mg : Str → Option Value} {base : Heap}
/-! ### Move.__init__ -/
def spMInit (K : PySem.W.Frag) : Sp := fun vs H Q _ => ∃ (s dx : Addr) (d : Int) (x y z : V) (u q r : Rat), vs = [.ref s, .int d, x, y, z] ∧ H s = some (.ins (aM K) dx []) ∧ 1 ≤ d ∧ NumAt K H x u ∧ NumAt K H y q ∧ NumAt K H z r ∧ Sz 100000 q ∧ Sz 100000 r ∧ rBelow r q = false ∧
  ∀ H', Kp s H H' → MovAt K H' s d u q r → Q .non H'
theorem scMInit : FnScope ["self", "divisor", "plus", "low", "high"] ["self", "divisor", "plus", "low", "high"] (defScope (sMove 0)) := ⟨rfl, rfl, rfl, by decide +kernel, rfl, by decide +kernel, by decide +kernel⟩
theorem ok_mInit {f : Addr} {fd : FuncData} (F : FunD K "__init__" "Move.__init__" (defArgs (sMove 0)) (defBody (sMove 0)) (defScope (sMove 0)) [] [] f fd) (M : RM P w K mg base) : FnOk P w K mg base CX0 6 f fd ["self", "divisor", "plus", "low", "high"] (spMInit K) := by
  obtain ⟨mc, pp, fo, cr, cm, GO⟩ := M.L.C.J.I.R.of
  obtain ⟨fB, fdB, mB, GB, bB⟩ := M.L.C.J.I.below
  obtain ⟨fD, fdD, GD, gD, bD, kD⟩ := M.chkD
  obtain ⟨fC, fdC, GC, gC, bC, kC⟩ := M.chkP
  have TR := M.L.C.J.I.R.G.T
  have T := M.T
  refine F.ok scMInit (fun vs H Q E h => ?_) (fun cdv A outer s H vs Q E hr h => ?_)
  · obtain ⟨s, dx, d, x, y, z, u, q, r, rfl, _⟩ := h
    rfl
  · obtain ⟨s, dx, d, x, y, z, u, q, r, rfl, es, d1, hx, hy, hz, sq, sr, le, k⟩ := h
    refine ⟨_, pss_cons (ps_expr (pe_call GD (hr.mono (by decide)) rfl gD kD bD .nil pass0 (pa_cons (pv 1) pa_nil)))
      (pss_cons (ps_expr (pe_call GC (hr.mono (by decide)) rfl gC kC bC .nil pass0 (pa_cons pe_str (pa_cons (pv 2) pa_nil))))
      (pss_cons (ps_expr (pe_call GC (hr.mono (by decide)) rfl gC kC bC .nil pass0 (pa_cons pe_str (pa_cons (pv 3) pa_nil))))
      (pss_cons (ps_expr (pe_call GC (hr.mono (by decide)) rfl gC kC bC .nil pass0 (pa_cons pe_str (pa_cons (pv 4) pa_nil))))
      (pss_cons (ps_fld (pv 0) (pv 1) rfl)
      (pss_cons (ps_fld (pv 0) (ClX.pe_cmeth (pe_glob (v := .ref (aR K)) rfl TR.gR rfl) cr cm GO (hr.mono (by decide)) pass0 (pa_cons (pv 2) pa_nil)) rfl)
      (pss_cons (ps_fld (pv 0) (ClX.pe_cmeth (pe_glob (v := .ref (aR K)) rfl TR.gR rfl) cr cm GO (hr.mono (by decide)) pass0 (pa_cons (pv 3) pa_nil)) rfl)
      (pss_cons (ps_fld (pv 0) (ClX.pe_cmeth (pe_glob (v := .ref (aR K)) rfl TR.gR rfl) cr cm GO (hr.mono (by decide)) pass0 (pa_cons (pv 4) pa_nil)) rfl)
      (pss_one (ps_if (pt_val (pe_meth (pe_fld (pv 0) rfl) TR.cl mB GB hr bB .nil pass0 (pa_cons (pe_fld (pv 0) rfl) pa_nil))) (pss_one ps_never) pss_nil))))))))), ?_⟩
    refine ⟨_, rfl, d, rfl, d1, ?_⟩
    refine ⟨_, rfl, _, x, u, rfl, hx, ?_⟩
    refine ⟨_, rfl, _, y, q, rfl, hy, ?_⟩
    refine ⟨_, rfl, _, z, r, rfl, hz, ?_⟩
    refine ⟨_, rfl, _, rfl, s, _, dx, _, rfl, es, T.cl, T.nD, (by decide), ?_⟩
    have k0 : Kp s H (upd H s (.ins (aM K) dx [("_divisor", .int d)])) := Kp.put fun c o _ e => e
    refine ⟨rfl, _, rfl, x, u, rfl, hx.kp es rfl k0, fun a H1 k1 ha => ?_⟩
    have e1 := k1 _ _ upd_same
    refine ⟨_, rfl, s, _, dx, _, rfl, e1, T.cl, T.nP, (by show 1 < 1000; decide), ?_⟩
    have na := notRat e1 rfl ha
    have kA : Kp s H1 (upd H1 s (.ins (aM K) dx [("_divisor", .int d), ("_plus", .ref a)])) := Kp.put fun c o _ e => e
    have k01 := (k0.same k1).put (o := .ins (aM K) dx [("_divisor", .int d), ("_plus", .ref a)])
    have ha1 := ha.kp na kA
    refine ⟨rfl, _, rfl, y, q, rfl, hy.kp es rfl k01, fun b H2 k2 hb => ?_⟩
    have e2 := k2 _ _ upd_same
    refine ⟨_, rfl, s, _, dx, _, rfl, e2, T.cl, T.nL, (by show 2 < 1000; decide), ?_⟩
    have nb := notRat e2 rfl hb
    have kB : Kp s H2 (upd H2 s (.ins (aM K) dx [("_divisor", .int d), ("_plus", .ref a), ("_low", .ref b)])) := Kp.put fun c o _ e => e
    have k02 := (k01.same k2).put (o := .ins (aM K) dx [("_divisor", .int d), ("_plus", .ref a), ("_low", .ref b)])
    have ha2 := (ha1.same k2).kp na kB
    have hb2 := hb.kp nb kB
    refine ⟨rfl, _, rfl, z, r, rfl, hz.kp es rfl k02, fun c H3 k3 hc => ?_⟩
    have e3 := k3 _ _ upd_same
    refine ⟨_, rfl, s, _, dx, _, rfl, e3, T.cl, T.nH, (by show 3 < 1000; decide), ?_⟩
    have nc := notRat e3 rfl hc
    have kC3 : Kp s H3 (upd H3 s (.ins (aM K) dx [("_divisor", .int d), ("_plus", .ref a), ("_low", .ref b), ("_high", .ref c)])) := Kp.put fun c o _ e => e
    have k03 := (k02.same k3).put (o := .ins (aM K) dx [("_divisor", .int d), ("_plus", .ref a), ("_low", .ref b), ("_high", .ref c)])
    have ha3 := (ha2.same k3).kp na kC3
    have hb3 := (hb2.same k3).kp nb kC3
    have hc3 := hc.kp nc kC3
    obtain ⟨db, eb⟩ := hb3
    obtain ⟨dc, ec⟩ := hc3
    refine ⟨_, rfl, s, _, dx, _, _, rfl, upd_same, T.cl, T.nH, rfl, c, dc, _, rfl, ec, rfl, _, rfl, s, _, dx, _, _, rfl, upd_same, T.cl, T.nL, rfl, c, .ref b, r, q, rfl, ⟨dc, ec⟩, .inr ⟨b, rfl, db, eb⟩, sr, sq, fun H4 k4 => ⟨_, rfl, ?_⟩⟩
    rw [le]
    exact iteF (k H4 (k03.same k4) ⟨d1, le, dx, a, b, c, k4 _ _ upd_same, ha3.same k4, RatAt.same ⟨db, eb⟩ k4, RatAt.same ⟨dc, ec⟩ k4⟩)
end
end K18
set_option maxHeartbeats 4000000
namespace K18
open PySem PySem.Spec PyProof.Rows L2 GL
theorem rOver_sz {q r : Rat} {n m : Nat} (h : Sz n q) (k : Sz m r) (r0 : r.num ≠ 0) : Sz (n + m) (rOver q r) := divInt_sz (Int.mul_ne_zero (den_ne q) r0) (mul_lt h.1 k.den) (mul_lt h.den k.1)
def cHeld (lo hi z : Rat) : Rat := if rBelow z lo = true then lo else if rBelow hi z = true then hi else z
def mFree (d : Int) (u z : Rat) : Rat := rOver (rAdd z u) (d : Rat)
def mAt (d : Int) (u lo hi z : Rat) : Rat := if rBelow (mFree d u z) lo = true then lo else if rBelow hi (mFree d u z) = true then hi else mFree d u z
theorem mFree_sz {d : Int} {u z : Rat} (d1 : 1 ≤ d) (su : Sz 1000 u) (sz : Sz 1000 z) (sd : Sz 1000 (d : Rat)) : Sz 3001 (mFree d u z) := (rOver_sz (rAdd_sz sz su) sd (by rw [Rat.num_intCast]; omega)).mono (by decide)
section
variable {P : Program} {w : World} {K : PySem.W.Frag} {mg : Str → Option Value} {base : Heap}
/-! ### _free -/
def spFree (K : PySem.W.Frag) : Sp := fun vs H Q _ => ∃ (s : Addr) (x : V) (d : Int) (u lo hi z : Rat), vs = [.ref s, x] ∧ MovAt K H s d u lo hi ∧ NumAt K H x z ∧ Sz 1000 u ∧ Sz 1000 z ∧ Sz 1000 (d : Rat) ∧ ∀ p H', Same H H' → RatAt K H' p (mFree d u z) → Q (.ref p) H'
theorem scFree : FnScope ["self", "number"] ["self", "number"] (defScope (sMove 10)) := ⟨rfl, rfl, rfl, by decide +kernel, rfl, by decide +kernel, by decide +kernel⟩
theorem ok_free {f : Addr} {fd : FuncData} (F : FunD K "_free" "Move._free" (defArgs (sMove 10)) (defBody (sMove 10)) (defScope (sMove 10)) [] [] f fd) (M : RM P w K mg base) : FnOk P w K mg base CX0 6 f fd ["self", "number"] (spFree K) := by
  obtain ⟨mc, pp, fo, cr, cm, GO⟩ := M.L.C.J.I.R.of
  obtain ⟨fA, oA, GA⟩ := M.L.C.add
  obtain ⟨fV, fdV, mV, GV, bV⟩ := M.L.C.over
  have TR := M.L.C.J.I.R.G.T
  have T := M.T
  refine F.ok scFree (fun vs H Q E h => ?_) (fun cdv A outer s H vs Q E hr h => ?_)
  · obtain ⟨s, x, d, u, lo, hi, z, rfl, _⟩ := h
    rfl
  · obtain ⟨s, x, d, u, lo, hi, z, rfl, ⟨d1, le, dx, a, b, c, es, ha, hb, hc⟩, hx, su, sz, sd, k⟩ := h
    refine ⟨_, pss_one (ps_ret (pe_meth (pe_op (op_own (.inl rfl) oA GA hr pass0) (ClX.pe_cmeth (pe_glob (v := .ref (aR K)) rfl TR.gR rfl) cr cm GO (hr.mono (by decide)) pass0 (pa_cons (pv 1) pa_nil)) (pe_fld (pv 0) rfl)) TR.cl mV GV hr bV .nil pass0 (pa_cons (pe_fld (pv 0) rfl) pa_nil))), ?_⟩
    refine ⟨rfl, _, rfl, x, z, rfl, hx, fun p H1 k1 hp => ?_⟩
    obtain ⟨dp, ep⟩ := hp
    obtain ⟨da, ea⟩ := ha.same k1
    refine ⟨_, rfl, s, _, dx, _, _, rfl, k1 _ _ es, T.cl, T.nP, rfl, p, dp, _, rfl, ep, .inl ⟨a, da, _, rfl, ea⟩, ?_⟩
    refine ⟨p, .ref a, z, u, rfl, ⟨dp, ep⟩, .inr ⟨a, rfl, da, ea⟩, sz.mono (by decide), su.mono (by decide), trivial, fun p2 H2 k2 hp2 => ?_⟩
    obtain ⟨d2, e2⟩ := hp2
    have k12 := k1.trans k2
    refine ⟨p2, d2, _, rfl, e2, rfl, _, rfl, s, _, dx, _, _, rfl, k12 _ _ es, T.cl, T.nD, rfl, p2, .int d, rAdd z u, (d : Rat), rfl, ⟨d2, e2⟩, .inl ⟨d, rfl, rfl⟩, (rAdd_sz sz su).mono (by decide), sd.mono (by decide), (by show (d : Rat).num ≠ 0; rw [Rat.num_intCast]; omega), fun p3 H3 k3 hp3 => k p3 H3 (k12.trans k3) hp3⟩
/-! ### _held -/
def spHeld (K : PySem.W.Frag) : Sp := fun vs H Q _ => ∃ (s x : Addr) (d : Int) (u lo hi z : Rat), vs = [.ref s, .ref x] ∧ MovAt K H s d u lo hi ∧ RatAt K H x z ∧ Sz 100000 z ∧ Sz 100000 lo ∧ Sz 100000 hi ∧ ∀ p H', Same H H' → RatAt K H' p (cHeld lo hi z) → Q (.ref p) H'
theorem scHeld : FnScope ["self", "ratio"] ["self", "ratio"] (defScope (sMove 19)) := ⟨rfl, rfl, rfl, by decide +kernel, rfl, by decide +kernel, by decide +kernel⟩
theorem ok_held {f : Addr} {fd : FuncData} (F : FunD K "_held" "Move._held" (defArgs (sMove 19)) (defBody (sMove 19)) (defScope (sMove 19)) [] [] f fd) (M : RM P w K mg base) : FnOk P w K mg base CX0 6 f fd ["self", "ratio"] (spHeld K) := by
  obtain ⟨fB, fdB, mB, GB, bB⟩ := M.L.C.J.I.below
  have TR := M.L.C.J.I.R.G.T
  have T := M.T
  refine F.ok scHeld (fun vs H Q E h => ?_) (fun cdv A outer s H vs Q E hr h => ?_)
  · obtain ⟨s, x, d, u, lo, hi, z, rfl, _⟩ := h
    rfl
  · obtain ⟨s, x, d, u, lo, hi, z, rfl, hs, hx, sz, sl, sh, k⟩ := h
    refine ⟨_, pss_cons (ps_if (pt_val (pe_meth (pv 1) TR.cl mB GB (hr.mono (by decide)) bB .nil pass0 (pa_cons (pe_fld (pv 0) rfl) pa_nil))) (pss_one (ps_ret (pe_fld (pv 0) rfl))) pss_nil)
      (pss_one (ps_ret (pe_ifExp (pt_val (pe_meth (pe_fld (pv 0) rfl) TR.cl mB GB (hr.mono (by decide)) bB .nil pass0 (pa_cons (pv 1) pa_nil))) (pe_fld (pv 0) rfl) (pv 1)))), ?_⟩
    obtain ⟨d1, le, dx, a, b, c, es, ha, hb, hc⟩ := id hs
    obtain ⟨dp, ep⟩ := id hx
    obtain ⟨db, eb⟩ := id hb
    obtain ⟨dc, ec⟩ := id hc
    unfold cHeld at k
    refine ⟨_, rfl, x, dp, _, rfl, ep, rfl, _, rfl, s, _, dx, _, _, rfl, es, T.cl, T.nL, rfl, x, .ref b, z, lo, rfl, ⟨dp, ep⟩, .inr ⟨b, rfl, db, eb⟩, sz, sl, fun H2 k2 => ⟨_, rfl, ?_⟩⟩
    cases hA : rBelow z lo with
    | true =>
      rw [hA, if_pos rfl] at k
      exact iteT ⟨_, rfl, s, _, dx, _, _, rfl, k2 _ _ es, T.cl, T.nL, rfl, k b H2 k2 (RatAt.same ⟨db, eb⟩ k2)⟩
    | false =>
      rw [hA, if_neg (by decide)] at k
      refine iteF ⟨_, rfl, s, _, dx, _, _, rfl, k2 _ _ es, T.cl, T.nH, rfl, c, dc, _, rfl, k2 _ _ ec, rfl, _, rfl, c, .ref x, hi, z, rfl, ⟨dc, k2 _ _ ec⟩, .inr ⟨x, rfl, dp, k2 _ _ ep⟩, sh, sz, fun H3 k3 => ⟨_, rfl, ?_⟩⟩
      have k13 := k2.trans k3
      cases hB : rBelow hi z with
      | true =>
        rw [hB, if_pos rfl] at k
        exact iteT ⟨_, rfl, s, _, dx, _, _, rfl, k13 _ _ es, T.cl, T.nH, rfl, k c H3 k13 ⟨dc, k13 _ _ ec⟩⟩
      | false =>
        rw [hB, if_neg (by decide)] at k
        exact iteF ⟨_, rfl, k x H3 k13 ⟨dp, k13 _ _ ep⟩⟩
/-! ### at -/
def spAt (K : PySem.W.Frag) : Sp := fun vs H Q _ => ∃ (s : Addr) (x : V) (d : Int) (u lo hi z : Rat), vs = [.ref s, x] ∧ MovAt K H s d u lo hi ∧ NumAt K H x z ∧ Sz 1000 u ∧ Sz 1000 z ∧ Sz 1000 (d : Rat) ∧ Sz 100000 lo ∧ Sz 100000 hi ∧ ∀ p H', Same H H' → RatAt K H' p (mAt d u lo hi z) → Q (.ref p) H'
theorem scAt : FnScope ["self", "number"] ["self", "number"] (defScope (sMove 9)) := ⟨rfl, rfl, rfl, by decide +kernel, rfl, by decide +kernel, by decide +kernel⟩
theorem ok_at {f fF fH : Addr} {fd fdF fdH : FuncData} (F : FunD K "at" "Move.at" (defArgs (sMove 9)) (defBody (sMove 9)) (defScope (sMove 9)) [] [] f fd) (M : RM P w K mg base) (FF : FunD K "_free" "Move._free" (defArgs (sMove 10)) (defBody (sMove 10)) (defScope (sMove 10)) [] [] fF fdF) (mF : Meth K (aM K) "_free" fF) (bF : Binds K fdF ["self", "number"] []) (FH : FunD K "_held" "Move._held" (defArgs (sMove 19)) (defBody (sMove 19)) (defScope (sMove 19)) [] [] fH fdH) (mH : Meth K (aM K) "_held" fH) (bH : Binds K fdH ["self", "ratio"] []) : FnOk P w K mg base CX0 7 f fd ["self", "number"] (spAt K) := by
  have GF : FnOk P w K mg base CX0 6 fF fdF ["self", "number"] (spFree K) := ok_free FF M
  have GH : FnOk P w K mg base CX0 6 fH fdH ["self", "ratio"] (spHeld K) := ok_held FH M
  have T := M.T
  refine F.ok scAt (fun vs H Q E h => ?_) (fun cdv A outer s H vs Q E hr h => ?_)
  · obtain ⟨s, x, d, u, lo, hi, z, rfl, _⟩ := h
    rfl
  · obtain ⟨s, x, d, u, lo, hi, z, rfl, hs, hx, su, sz, sd, sl, sh, k⟩ := h
    refine ⟨_, pss_one (ps_ret (pe_meth (pv 0) T.cl mH GH hr bH .nil pass0 (pa_cons (pe_meth (pv 0) T.cl mF GF hr bF .nil pass0 (pa_cons (pv 1) pa_nil)) pa_nil))), ?_⟩
    obtain ⟨d1, le, dx, a, b, c, es, ha, hb, hc⟩ := id hs
    have sf := (mFree_sz d1 su sz sd).mono (show 3001 ≤ 100000 by decide)
    refine ⟨_, rfl, s, dx, _, rfl, es, rfl, _, rfl, s, dx, _, rfl, es, rfl, _, rfl, s, x, d, u, lo, hi, z, rfl, hs, hx, su, sz, sd, fun p H1 k1 hp => ?_⟩
    exact ⟨s, p, d, u, lo, hi, _, rfl, hs.same k1, hp, sf, sl, sh, fun p2 H2 k2 hp2 => k p2 H2 (k1.trans k2) hp2⟩
end
end K18
set_option maxHeartbeats 1000000
namespace K18
open PySem PySem.Spec PyProof.Rows L2 GL
/-! ### what the program's arithmetic is -/
theorem rBelow_iff {q r : Rat} : rBelow q r = true ↔ q < r := by
  unfold rBelow
  rw [decide_eq_true_iff, Rat.lt_iff]
theorem rBelow_not {q r : Rat} : rBelow q r = false ↔ r ≤ q := by
  rw [← Rat.not_lt, ← rBelow_iff, Bool.not_eq_true]
theorem rAdd_eq (q r : Rat) : rAdd q r = q + r := by
  have h := Rat.divInt_add_divInt q.num r.num (den_ne q) (den_ne r)
  rw [Rat.num_divInt_den, Rat.num_divInt_den] at h
  exact h.symm
theorem rMul_eq (q r : Rat) : rMul q r = q * r := by
  have h := Rat.divInt_mul_divInt q.num r.num (d₁ := (q.den : Int)) (d₂ := (r.den : Int))
  rw [Rat.num_divInt_den, Rat.num_divInt_den] at h
  exact h.symm
theorem rNeg_eq (q : Rat) : rNeg q = -q := by
  have h := Rat.neg_divInt q.num (q.den : Int)
  rw [Rat.num_divInt_den] at h
  exact h.symm
theorem rSub_eq (q r : Rat) : rSub q r = q - r := by
  have h := rAdd_eq q (-r)
  rw [← Rat.sub_eq_add_neg] at h
  rw [← h]
  unfold rSub rAdd
  rw [Rat.neg_num, Rat.neg_den, Int.neg_mul, ← Int.sub_eq_add_neg]
theorem rOver_eq (q r : Rat) : rOver q r = q / r := by
  have h := Rat.divInt_mul_divInt q.num (r.den : Int) (d₁ := (q.den : Int)) (d₂ := r.num)
  have e := Rat.inv_divInt r.num (r.den : Int)
  rw [Rat.num_divInt_den] at h e
  rw [Rat.div_def, e]
  exact h.symm
theorem mFree_eq (d : Int) (u z : Rat) : mFree d u z = (z + u) / (d : Rat) := by
  unfold mFree
  rw [rOver_eq, rAdd_eq]
theorem mFree_mono {d : Int} {u z y : Rat} (d1 : 1 ≤ d) (h : z ≤ y) : mFree d u z ≤ mFree d u y := by
  rw [mFree_eq, mFree_eq, Rat.div_def, Rat.div_def]
  refine Rat.mul_le_mul_of_nonneg_right (Rat.add_le_add_right.mpr h) ?_
  have p : (0 : Rat) < (d : Rat) := by
    have : (0 : Int) < d := by omega
    exact_mod_cast this
  exact Rat.le_of_lt (Rat.inv_pos.mpr p)
/-- moves never turn the order round -/
theorem mAt_mono {d : Int} {u lo hi z y : Rat} (d1 : 1 ≤ d) (l : lo ≤ hi) (h : z ≤ y) : mAt d u lo hi z ≤ mAt d u lo hi y := by
  have f := mFree_mono (u := u) d1 h
  unfold mAt
  simp only [rBelow_iff]
  split
  · split
    · exact Rat.le_refl
    · split
      · exact l
      · exact Rat.not_lt.mp (by assumption)
  · split
    · rename_i a b
      split
      · rename_i c
        exact absurd (Std.lt_of_le_of_lt f c) a
      · split
        · exact Rat.le_refl
        · rename_i c e
          exact absurd (Std.lt_of_lt_of_le b f) e
    · rename_i a b
      split
      · rename_i c
        exact absurd (Std.lt_of_le_of_lt f c) a
      · split
        · exact Rat.not_lt.mp b
        · exact f
end K18
set_option maxHeartbeats 4000000
namespace K18
open PySem PySem.Spec PyProof.Rows L2 GL
abbrev sChkOther : Stmt := tp 21
theorem rAdd_sz2 {q r : Rat} {n m : Nat} (h : Sz n q) (k : Sz m r) : Sz (n + m + 1) (rAdd q r) := by
  refine divInt_sz (Int.mul_ne_zero (den_ne q) (den_ne r)) ?_ (Nat.lt_of_lt_of_le (mul_lt h.den k.den) (Nat.pow_le_pow_right (by decide) (by omega)))
  have a := mul_lt h.1 k.den
  have b := mul_lt k.1 h.den
  have c := Int.natAbs_add_le (q.num * (r.den : Int)) (r.num * (q.den : Int))
  rw [Nat.pow_succ]
  rw [Nat.add_comm m n] at b
  omega
theorem rSub_sz2 {q r : Rat} {n m : Nat} (h : Sz n q) (k : Sz m r) : Sz (n + m + 1) (rSub q r) := by
  refine divInt_sz (Int.mul_ne_zero (den_ne q) (den_ne r)) ?_ (Nat.lt_of_lt_of_le (mul_lt h.den k.den) (Nat.pow_le_pow_right (by decide) (by omega)))
  have a := mul_lt h.1 k.den
  have b := mul_lt k.1 h.den
  have c := Int.natAbs_add_le (q.num * (r.den : Int)) (-(r.num * (q.den : Int)))
  rw [Int.natAbs_neg, ← Int.sub_eq_add_neg] at c
  rw [Nat.pow_succ]
  rw [Nat.add_comm m n] at b
  omega
theorem rMul_sz2 {q r : Rat} {n m : Nat} (h : Sz n q) (k : Sz m r) : Sz (n + m) (rMul q r) := divInt_sz (Int.mul_ne_zero (den_ne q) (den_ne r)) (mul_lt h.1 k.1) (mul_lt h.den k.den)
theorem int_sz {i : Int} {n : Nat} (hn : n ≠ 0) (h : i.natAbs < 2 ^ n) : Sz n (i : Rat) := ⟨h, Nat.one_lt_two_pow hn⟩
theorem mFree_sz2 {d : Int} {u z : Rat} {n m k : Nat} (d1 : 1 ≤ d) (su : Sz m u) (sz : Sz n z) (sd : Sz k (d : Rat)) : Sz (n + m + 1 + k) (mFree d u z) := rOver_sz (rAdd_sz2 sz su) sd (by rw [Rat.num_intCast]; omega)
theorem mAt_sz2 {d : Int} {u lo hi z : Rat} {n m k l : Nat} (d1 : 1 ≤ d) (su : Sz m u) (sz : Sz n z) (sd : Sz k (d : Rat)) (sl : Sz l lo) (sh : Sz l hi) (hl : l ≤ n + m + 1 + k) : Sz (n + m + 1 + k) (mAt d u lo hi z) := by
  unfold mAt
  split
  · exact sl.mono hl
  · split
    · exact sh.mono hl
    · exact mFree_sz2 d1 su sz sd
/-- what the methods of Move call -/
structure RN (P : Program) (w : World) (K : PySem.W.Frag) (mg : Str → Option Value) (base : Heap) : Prop where
  M : RM P w K mg base
  make : ∃ f fd, Mk K (aM K) f ∧ FnOk P w K mg base CX0 6 f fd ["self", "divisor", "plus", "low", "high"] (spMInit K) ∧ Binds K fd ["self", "divisor", "plus", "low", "high"] []
  free : ∃ f fd, Meth K (aM K) "_free" f ∧ FnOk P w K mg base CX0 6 f fd ["self", "number"] (spFree K) ∧ Binds K fd ["self", "number"] []
  held : ∃ f fd, Meth K (aM K) "_held" f ∧ FnOk P w K mg base CX0 6 f fd ["self", "ratio"] (spHeld K) ∧ Binds K fd ["self", "ratio"] []
  at_ : ∃ f fd, Meth K (aM K) "at" f ∧ FnOk P w K mg base CX0 7 f fd ["self", "number"] (spAt K) ∧ Binds K fd ["self", "number"] []
  mul : ∃ f, OwnBin K (aR K) .Mult f ∧ FnR P w K mg base CX0 5 f (spBin K rMul fun _ _ => True)
  sub : ∃ f, OwnBin K (aR K) .Sub f ∧ FnR P w K mg base CX0 5 f (spBin K rSub fun _ _ => True)
/-- C(..) of a Move, its parts at the end of the call -/
theorem made_mov {K : PySem.W.Frag} {H : Hp} {Q : VK} {E : XK} {x dx : Addr} {d : Int} {y z v : V} {u q r : Rat} (hx : H x = none) (hd : H dx = none) (ne : dx ≠ x) (d1 : 1 ≤ d) (hu : NumAt K H y u) (hq : NumAt K H z q) (hr : NumAt K H v r) (sq : Sz 100000 q) (sr : Sz 100000 r) (le : rBelow r q = false)
    (k : ∀ p H', Same H H' → H p = none → MovAt K H' p d u q r → Q (.ref p) H') :
    spMInit K [.ref x, .int d, y, z, v] (upd (upd H dx (.own x)) x (.ins (aM K) dx [])) (fun v H2 => v = .non ∧ Q (.ref x) H2) E := by
  have up : Same H (upd (upd H dx (.own x)) x (.ins (aM K) dx [])) := fun b o e => by rw [upd_ne (ne_of_none e hx), upd_ne (ne_of_none e hd)]; exact e
  exact ⟨x, dx, d, y, z, v, u, q, r, rfl, upd_same, d1, hu.same up, hq.same up, hr.same up, sq, sr, le, fun H' kp e => ⟨rfl, k x H' (fun c o ec => kp c o (ne_of_none ec hx) (up _ _ ec)) hx e⟩⟩
section
variable {P : Program} {w : World} {K : PySem.W.Frag} {mg : Str → Option Value} {base : Heap}
theorem isi_self {A : Addr} : PySem.W.kitOne K (.ref A) (.ref A) = some true := by unfold PySem.W.kitOne; rw [if_pos (beq_self_eq_true _)]
def spChkOther (K : PySem.W.Frag) : Sp := fun vs H Q _ => ∃ (a : Addr) (d : Int) (u q r : Rat), vs = [.ref a] ∧ MovAt K H a d u q r ∧ Q .non H
theorem scChkOther : FnScope ["value"] ["value"] (defScope sChkOther) := ⟨rfl, rfl, rfl, by decide +kernel, rfl, by decide +kernel, by decide +kernel⟩
theorem ok_chkOther {f : Addr} {fd : FuncData} (F : Fun K "_check_other" "_check_other" sChkOther f fd) (M : RM P w K mg base) : FnOk P w K mg base CX0 1 f fd ["value"] (spChkOther K) := by
  refine F.ok scChkOther (fun vs H Q E h => ?_) (fun cdv A outer s H vs Q E hr h => ?_)
  · obtain ⟨a, d, u, q, r, rfl, _⟩ := h
    rfl
  · obtain ⟨a, d, u, q, r, rfl, ha, k⟩ := h
    refine ⟨_, pss_one (ps_if (pt_not (pt_val (pe_callB call_isi (by rfl) M.L.C.J.I.R.G.T.isi (by decide +kernel) (pa_cons (pv 0) (pa_cons (pe_glob (v := .ref (aM K)) rfl M.T.gM rfl) pa_nil))))) (pss_one ps_never) pss_nil), ?_⟩
    exact ⟨_, rfl, .ref a, .ref (aM K), .ref (aM K), _, true, rfl, .own _, ha.ty M.T, isi_self, true, rfl, iteF k⟩
/-! ### then -/
def spThen (K : PySem.W.Frag) : Sp := fun vs H Q _ => ∃ (s o : Addr) (d e : Int) (u lo hi v l2 h2 : Rat), vs = [.ref s, .ref o] ∧ MovAt K H s d u lo hi ∧ MovAt K H o e v l2 h2 ∧ Sz 1000 u ∧ Sz 1000 v ∧ Sz 1000 lo ∧ Sz 1000 hi ∧ Sz 1000 l2 ∧ Sz 1000 h2 ∧ Sz 1000 (d : Rat) ∧ Sz 1000 (e : Rat) ∧
  ∀ p H', Same H H' → MovAt K H' p (d * e) (rAdd u (rMul v (d : Rat))) (mAt e v l2 h2 lo) (mAt e v l2 h2 hi) → Q (.ref p) H'
theorem scThen : FnScope ["self", "other", "plus"] ["self", "other"] (defScope (sMove 11)) := ⟨rfl, rfl, rfl, by decide +kernel, rfl, by decide +kernel, by decide +kernel⟩
theorem ok_then {f fO : Addr} {fd fdO : FuncData} (F : FunD K "then" "Move.then" (defArgs (sMove 11)) (defBody (sMove 11)) (defScope (sMove 11)) [] [] f fd) (N : RN P w K mg base) (FO : Fun K "_check_other" "_check_other" sChkOther fO fdO) (gO : mg "_check_other" = some (.ref fO)) (bO : Binds K fdO ["value"] []) : FnOk P w K mg base CX0 8 f fd ["self", "other"] (spThen K) := by
  have GO : FnOk P w K mg base CX0 1 fO fdO ["value"] (spChkOther K) := ok_chkOther FO N.M
  obtain ⟨fA, oA, GA⟩ := N.M.L.C.add
  obtain ⟨fM, oM, GM⟩ := N.mul
  obtain ⟨fT, fdT, mT, GT, bT⟩ := N.at_
  obtain ⟨fI, fdI, MI, GI, bI⟩ := N.make
  have TR := N.M.L.C.J.I.R.G.T
  have T := N.M.T
  refine F.ok scThen (fun vs H Q E h => ?_) (fun cdv A outer s H vs Q E hr h => ?_)
  · obtain ⟨s, o, d, e, u, lo, hi, v, l2, h2, rfl, _⟩ := h
    rfl
  · obtain ⟨s, o, d, e, u, lo, hi, v, l2, h2, rfl, hs, ho, su, sv, sl, sh, sl2, sh2, sd, se, k⟩ := h
    refine ⟨_, pss_cons (ps_expr (pe_call GO (hr.mono (by decide)) rfl gO FO.kp bO .nil pass0 (pa_cons (pv 1) pa_nil)))
      (pss_cons (ps_set (i := 2) scThen.nd rfl (Or.inl rfl) (pe_op (op_own (.inl rfl) oA GA (hr.mono (by decide)) pass0) (pe_fld (pv 0) rfl) (pe_op (op_own (.inr (.inr rfl)) oM GM (hr.mono (by decide)) pass0) (pe_fld (pv 1) rfl) (pe_fld (pv 0) rfl))))
      (pss_one (ps_ret (pe_make MI GI hr rfl T.gM bI .nil pass0 (pa_cons (pe_op op_mulW (pe_fld (pv 0) rfl) (pe_fld (pv 1) rfl)) (pa_cons (pv 2)
        (pa_cons (pe_meth (pv 1) T.cl mT GT hr bT .nil pass0 (pa_cons (pe_fld (pv 0) rfl) pa_nil)) (pa_cons (pe_meth (pv 1) T.cl mT GT hr bT .nil pass0 (pa_cons (pe_fld (pv 0) rfl) pa_nil)) pa_nil)))))))), ?_⟩
    refine ⟨_, rfl, o, e, v, l2, h2, rfl, ho, ?_⟩
    have hs' := hs
    have ho' := ho
    obtain ⟨d1, le, dx, a, b, c, es, ha, hb, hc⟩ := hs'
    obtain ⟨e1, le2, dy, a2, b2, c2, eo, ha2, hb2, hc2⟩ := ho'
    obtain ⟨da, ea⟩ := ha
    obtain ⟨db, eb⟩ := ha2
    refine ⟨_, rfl, s, _, dx, _, _, rfl, es, T.cl, T.nP, rfl, ?_⟩
    refine ⟨_, rfl, o, _, dy, _, _, rfl, eo, T.cl, T.nP, rfl, _, rfl, s, _, dx, _, _, rfl, es, T.cl, T.nD, rfl, a2, db, _, rfl, eb, .inr ⟨d, rfl⟩, ?_⟩
    refine ⟨a2, .int d, v, (d : Rat), rfl, ⟨db, eb⟩, .inl ⟨d, rfl, rfl⟩, sv.mono (by decide), sd.mono (by decide), trivial, fun p1 H1 k1 hp1 => ?_⟩
    obtain ⟨d3, e3⟩ := hp1
    refine ⟨a, da, _, rfl, k1 _ _ ea, .inl ⟨p1, d3, _, rfl, e3⟩, ?_⟩
    refine ⟨a, .ref p1, u, rMul v (d : Rat), rfl, ⟨da, k1 _ _ ea⟩, .inr ⟨p1, rfl, d3, e3⟩, su.mono (by decide), (rMul_sz2 sv sd).mono (by decide), trivial, fun p2 H2 k2 hp2 => ?_⟩
    have k12 := k1.trans k2
    refine ⟨_, rfl, s, _, dx, _, _, rfl, k12 _ _ es, T.cl, T.nD, rfl, _, rfl, o, _, dy, _, _, rfl, k12 _ _ eo, T.cl, T.nD, rfl, _, _, rfl, rfl, wide_mul sd.1 se.1 (by decide) (by decide) (by decide), ?_⟩
    refine ⟨_, rfl, ?_⟩
    refine ⟨_, rfl, o, dy, _, rfl, k12 _ _ eo, rfl, _, rfl, s, _, dx, _, _, rfl, k12 _ _ es, T.cl, T.nL, rfl, ?_⟩
    refine ⟨o, .ref b, e, v, l2, h2, lo, rfl, ho.same k12, .inr ⟨b, rfl, hb.same k12⟩, sv, sl, se, sl2.mono (by decide), sh2.mono (by decide), fun p3 H3 k3 hp3 => ?_⟩
    have k13 := k12.trans k3
    refine ⟨_, rfl, o, dy, _, rfl, k13 _ _ eo, rfl, _, rfl, s, _, dx, _, _, rfl, k13 _ _ es, T.cl, T.nH, rfl, ?_⟩
    refine ⟨o, .ref c, e, v, l2, h2, hi, rfl, ho.same k13, .inr ⟨c, rfl, hc.same k13⟩, sv, sh, se, sl2.mono (by decide), sh2.mono (by decide), fun p4 H4 k4 hp4 => ?_⟩
    intro x dz hx hd ne
    have at_sz : ∀ {z : Rat}, Sz 1000 z → Sz 100000 (mAt e v l2 h2 z) := fun {z} sz => (mAt_sz2 e1 sv sz se sl2 sh2 (by decide)).mono (by decide)
    have mono : rBelow (mAt e v l2 h2 hi) (mAt e v l2 h2 lo) = false := rBelow_not.mpr (mAt_mono e1 (rBelow_not.mp le2) (rBelow_not.mp le))
    have de : 1 ≤ d * e := by
      have := Int.mul_le_mul d1 e1 (by decide) (by omega)
      omega
    exact made_mov hx hd ne de (.inr ⟨p2, rfl, (hp2.same k3).same k4⟩) (.inr ⟨p3, rfl, hp3.same k4⟩) (.inr ⟨p4, rfl, hp4⟩) (at_sz sl) (at_sz sh) mono fun p5 H5 k5 _ hp5 => k p5 H5 ((k13.trans k4).trans k5) hp5
end
end K18
set_option maxHeartbeats 4000000
namespace K18
open PySem PySem.Spec PyProof.Rows L2 GL
/-- a property of a class: its record, its def's promise -/
def PropX (P : Program) (w : World) (K : PySem.W.Frag) (mg : Str → Option Value) (base : Heap) (C : Addr) (f : Str) (sp : Sp) : Prop := ∃ p g fd, PropOf K C f p g ∧ FnOk P w K mg base CX0 1 g fd ["self"] sp ∧ Binds K fd ["self"] []
/-- a method -/
def MetX (P : Program) (w : World) (K : PySem.W.Frag) (mg : Str → Option Value) (base : Heap) (C : Addr) (m : Str) (k : Nat) (ps : List Str) (sp : Sp) : Prop := ∃ f fd, Meth K C m f ∧ FnOk P w K mg base CX0 k f fd ps sp ∧ Binds K fd ps []
/-- a def of the module -/
def DefF (P : Program) (w : World) (K : PySem.W.Frag) (mg : Str → Option Value) (base : Heap) (x : Str) (k : Nat) (ps : List Str) (sp : Sp) : Prop := ∃ f fd, FnOk P w K mg base CX0 k f fd ps sp ∧ mg x = some (.ref f) ∧ Binds K fd ps [] ∧ PySem.W.keepIn K (.ref f) = true
/-- two Ratios by Ratio.__eq__ -/
def RatB (K : PySem.W.Frag) : DB := fun x y b H => ∃ a c q r, x = .ref a ∧ y = .ref c ∧ RatAt K H a q ∧ RatAt K H c r ∧ b = decide (q = r)
theorem ratAt_inj {K : PySem.W.Frag} {H : Hp} {a : Addr} {q r : Rat} (h : RatAt K H a q) (k : RatAt K H a r) : q = r := by
  obtain ⟨d, e⟩ := h
  obtain ⟨d2, e2⟩ := k
  rw [e] at e2
  have z := ins_fs e2
  injection z with z1 z2
  injection z1 with _ z1
  injection z1 with z1
  injection z2 with z2 _
  injection z2 with _ z2
  injection z2 with z2
  exact Rat.ext z1 (by omega)
/-- flat things and Ratios -/
def ThB (K : PySem.W.Frag) : DB := fun x y b H => FlatB x y b H ∨ RatB K x y b H
theorem monB_rat {K : PySem.W.Frag} : MonB (RatB K) := by
  intro x y b H H' k d
  obtain ⟨a, c, q, r, e1, e2, ha, hc, e⟩ := d
  exact ⟨a, c, q, r, e1, e2, ha.same k, hc.same k, e⟩
theorem monB_th {K : PySem.W.Frag} : MonB (ThB K) := monB_flat.or monB_rat
theorem eqB_rat {X : Cx} {f : Addr} (B : GL.OwnEq X.K (aR X.K) f) (F : FnR X.prog X.w X.K X.mg X.base CX0 1 f (spREq X.K)) : EqB X 1 (RatB X.K) := by
  have z := eqB_ins (E := fun _ _ _ => False) B F (X := X) (pass0 (X := X))
  intro A pins s σ H x y u v b sb I rx ry d
  refine z A pins s σ H x y u v b sb I rx ry ?_
  obtain ⟨a, c, q, r, rfl, rfl, ha, hc, rfl⟩ := d
  obtain ⟨da, ea⟩ := id ha
  obtain ⟨dc, ec⟩ := id hc
  refine ⟨a, c, da, dc, _, _, rfl, rfl, ea, ec, ?_, a, .ref c, q, rfl, ha, .inl ⟨c, r, rfl, hc, rfl, fun _ _ e => e⟩⟩
  rintro rfl
  exact decide_eq_true (ratAt_inj ha hc)
theorem eqB_th {X : Cx} {f : Addr} (B : GL.OwnEq X.K (aR X.K) f) (F : FnR X.prog X.w X.K X.mg X.base CX0 1 f (spREq X.K)) : EqB X 1 (ThB X.K) := (eqB_flat.mono (by decide)).or (eqB_rat B F)
section
variable {P : Program} {w : World} {K : PySem.W.Frag} {mg : Str → Option Value} {base : Heap}
/-! ### form -/
end
end K18
set_option maxHeartbeats 4000000
namespace K18
open PySem PySem.Spec PyProof.Rows L2 GL
def cMEq (d : Int) (u lo hi : Rat) (e : Int) (v l2 h2 : Rat) : Bool := decide (d = e) && (decide (u = v) && (decide (lo = l2) && decide (hi = h2)))
theorem cMEq_self (d : Int) (u lo hi : Rat) : cMEq d u lo hi d u lo hi = true := by
  unfold cMEq
  simp
section
variable {P : Program} {w : World} {K : PySem.W.Frag} {mg : Str → Option Value} {base : Heap}
/-! ### Move.__eq__ -/
def spMEq (K : PySem.W.Frag) : Sp := fun vs H Q _ => ∃ (s : Addr) (y : V) (d : Int) (u lo hi : Rat), vs = [.ref s, y] ∧ MovAt K H s d u lo hi ∧
  ((∃ o e v l2 h2, y = .ref o ∧ MovAt K H o e v l2 h2 ∧ Q (.bl (cMEq d u lo hi e v l2 h2)) H) ∨ ∃ t, TyX K H y t ∧ PySem.W.kitOne K t (.ref (aM K)) = some false ∧ Q (.bl false) H)
theorem scMEq : FnScope ["self", "other"] ["self", "other"] (defScope (sMove 26)) := ⟨rfl, rfl, rfl, by decide +kernel, rfl, by decide +kernel, by decide +kernel⟩
theorem ok_mEq {f : Addr} {fd : FuncData} (F : FunD K "__eq__" "Move.__eq__" (defArgs (sMove 26)) (defBody (sMove 26)) (defScope (sMove 26)) [] [] f fd) (M : RM P w K mg base) : FnOk P w K mg base CX0 3 f fd ["self", "other"] (spMEq K) := by
  obtain ⟨fE, oE, GE⟩ := M.L.C.J.I.eq
  have TR := M.L.C.J.I.R.G.T
  have TM := M.T
  refine F.ok scMEq (fun vs H Q E h => ?_) (fun cdv A outer s H vs Q E hr h => ?_)
  · obtain ⟨s, y, d, u, lo, hi, rfl, _⟩ := h
    rfl
  · obtain ⟨s, y, d, u, lo, hi, rfl, ⟨d1, le, dx, pa, pb, pc, es, ha, hb, hc⟩, h⟩ := h
    refine ⟨_, pss_cons (ps_if (pt_not (pt_val (pe_callB call_isi (by rfl) TR.isi (by decide +kernel) (pa_cons (pv 1) (pa_cons (pe_glob (v := .ref (aM K)) rfl TM.gM rfl) pa_nil))))) (pss_one (ps_ret pe_bl)) pss_nil)
      (pss_cons (ps_if (PW.pt (pw_or (pt_cmpR op_ne (pe_fld (pv 0) rfl) (pe_fld (pv 1) rfl) (nomark _)) (pw_or1 (pt_cmpR (op_neO oE GE hr pass0) (pe_fld (pv 0) rfl) (pe_fld (pv 1) rfl) (nomark _))))) (pss_one (ps_ret pe_bl)) pss_nil)
      (pss_one (ps_ret (pe_and (pe_cmpR (op_eqO oE GE (hr.mono (by decide)) pass0) (pe_fld (pv 0) rfl) (pe_fld (pv 1) rfl) (nomark _)) (pe_one (pe_cmpR (op_eqO oE GE (hr.mono (by decide)) pass0) (pe_fld (pv 0) rfl) (pe_fld (pv 1) rfl) (nomark _))))))), ?_⟩
    rcases h with ⟨o, e, v, l2, h2, rfl, ho, k⟩ | ⟨t, ty, kt, k⟩
    · obtain ⟨e1, le2, dy, qa, qb, qc, eo, ha2, hb2, hc2⟩ := id ho
      have nf : PySem.W.notFirst K (aR K) (.ref (aR K)) = true := by unfold PySem.W.notFirst; rw [beq_self_eq_true, Bool.true_or]
      unfold cMEq at k
      refine ⟨_, rfl, .ref o, .ref (aM K), .ref (aM K), _, true, rfl, .own _, ho.ty TM, isi_self, true, rfl, iteF ?_⟩
      refine ⟨_, rfl, s, _, dx, _, _, rfl, es, TM.cl, TM.nD, rfl, _, rfl, o, _, dy, _, _, rfl, eo, TM.cl, TM.nD, rfl, rfl, _, rfl, ?_⟩
      by_cases cd : d = e
      · have z : decide (V.int d = V.int e) = true := decide_eq_true (by rw [cd])
        rw [decide_eq_true cd, Bool.true_and] at k
        dsimp only
        rw [z]
        refine iteF ?_
        obtain ⟨da, ea⟩ := id ha
        refine ⟨_, rfl, s, _, dx, _, _, rfl, es, TM.cl, TM.nP, rfl, _, rfl, o, _, dy, _, _, rfl, eo, TM.cl, TM.nP, rfl, pa, da, _, .ref (aR K), rfl, ea, ha2.ty TR, nf, pa, .ref qa, u, rfl, ha, .inl ⟨qa, v, rfl, ha2, _, rfl, _, rfl, ?_⟩⟩
        cases cu : decide (u = v) with
        | false =>
          rw [cu, Bool.false_and] at k
          exact iteT k
        | true =>
          rw [cu, Bool.true_and] at k
          refine iteF ?_
          obtain ⟨db, eb⟩ := id hb
          refine ⟨_, rfl, s, _, dx, _, _, rfl, es, TM.cl, TM.nL, rfl, _, rfl, o, _, dy, _, _, rfl, eo, TM.cl, TM.nL, rfl, pb, db, _, .ref (aR K), rfl, eb, hb2.ty TR, nf, pb, .ref qb, lo, rfl, hb, .inl ⟨qb, l2, rfl, hb2, _, rfl, ?_⟩⟩
          cases cl : decide (lo = l2) with
          | false =>
            rw [cl, Bool.false_and] at k
            exact iteF k
          | true =>
            rw [cl, Bool.true_and] at k
            obtain ⟨dc, ec⟩ := id hc
            exact iteT ⟨_, rfl, s, _, dx, _, _, rfl, es, TM.cl, TM.nH, rfl, _, rfl, o, _, dy, _, _, rfl, eo, TM.cl, TM.nH, rfl, pc, dc, _, .ref (aR K), rfl, ec, hc2.ty TR, nf, pc, .ref qc, hi, rfl, hc, .inl ⟨qc, h2, rfl, hc2, k⟩⟩
      · have z : decide (V.int d = V.int e) = false := decide_eq_false fun y => cd (by injection y)
        rw [decide_eq_false cd, Bool.false_and] at k
        dsimp only
        rw [z]
        exact iteT k
    · exact ⟨_, rfl, y, .ref (aM K), t, _, false, rfl, .own _, ty, kt, false, rfl, iteT k⟩
/-! ### the parts told -/
theorem scM5 : FnScope ["self"] ["self"] (defScope (sMove 5)) := ⟨rfl, rfl, rfl, by decide +kernel, rfl, by decide +kernel, by decide +kernel⟩
theorem ok_mDiv {f : Addr} {fd : FuncData} (F : FunD K "divisor" "Move.divisor" (defArgs (sMove 5)) (defBody (sMove 5)) (defScope (sMove 5)) [] [] f fd) (T : MF K mg) : FnOk P w K mg base CX0 1 f fd ["self"] (fun vs H Q _ => ∃ (s : Addr) (d : Int) (u lo hi : Rat), vs = [.ref s] ∧ MovAt K H s d u lo hi ∧ Q (.int d) H) := by
  refine F.ok scM5 (fun vs H Q E h => ?_) (fun cdv A outer s H vs Q E hr h => ?_)
  · obtain ⟨s, d, u, lo, hi, rfl, _⟩ := h
    rfl
  · obtain ⟨s, d, u, lo, hi, rfl, ⟨d1, le, dx, pa, pb, pc, es, ha, hb, hc⟩, k⟩ := h
    exact ⟨_, pss_one (ps_ret (pe_fld (pv 0) rfl)), _, rfl, s, _, dx, _, _, rfl, es, T.cl, T.nD, rfl, k⟩
def spMGet (K : PySem.W.Frag) (g : Rat → Rat → Rat → Rat) : Sp := fun vs H Q _ => ∃ (s : Addr) (d : Int) (u lo hi : Rat), vs = [.ref s] ∧ MovAt K H s d u lo hi ∧ ∀ a, RatAt K H a (g u lo hi) → Q (.ref a) H
theorem scM6 : FnScope ["self"] ["self"] (defScope (sMove 6)) := ⟨rfl, rfl, rfl, by decide +kernel, rfl, by decide +kernel, by decide +kernel⟩
theorem ok_mPlus {f : Addr} {fd : FuncData} (F : FunD K "plus" "Move.plus" (defArgs (sMove 6)) (defBody (sMove 6)) (defScope (sMove 6)) [] [] f fd) (T : MF K mg) : FnOk P w K mg base CX0 1 f fd ["self"] (spMGet K fun u _ _ => u) := by
  refine F.ok scM6 (fun vs H Q E h => ?_) (fun cdv A outer s H vs Q E hr h => ?_)
  · obtain ⟨s, d, u, lo, hi, rfl, _⟩ := h
    rfl
  · obtain ⟨s, d, u, lo, hi, rfl, ⟨d1, le, dx, pa, pb, pc, es, ha, hb, hc⟩, k⟩ := h
    exact ⟨_, pss_one (ps_ret (pe_fld (pv 0) rfl)), _, rfl, s, _, dx, _, _, rfl, es, T.cl, T.nP, rfl, k _ ha⟩
theorem scM7 : FnScope ["self"] ["self"] (defScope (sMove 7)) := ⟨rfl, rfl, rfl, by decide +kernel, rfl, by decide +kernel, by decide +kernel⟩
theorem ok_mLow {f : Addr} {fd : FuncData} (F : FunD K "low" "Move.low" (defArgs (sMove 7)) (defBody (sMove 7)) (defScope (sMove 7)) [] [] f fd) (T : MF K mg) : FnOk P w K mg base CX0 1 f fd ["self"] (spMGet K fun _ l _ => l) := by
  refine F.ok scM7 (fun vs H Q E h => ?_) (fun cdv A outer s H vs Q E hr h => ?_)
  · obtain ⟨s, d, u, lo, hi, rfl, _⟩ := h
    rfl
  · obtain ⟨s, d, u, lo, hi, rfl, ⟨d1, le, dx, pa, pb, pc, es, ha, hb, hc⟩, k⟩ := h
    exact ⟨_, pss_one (ps_ret (pe_fld (pv 0) rfl)), _, rfl, s, _, dx, _, _, rfl, es, T.cl, T.nL, rfl, k _ hb⟩
theorem scM8 : FnScope ["self"] ["self"] (defScope (sMove 8)) := ⟨rfl, rfl, rfl, by decide +kernel, rfl, by decide +kernel, by decide +kernel⟩
theorem ok_mHigh {f : Addr} {fd : FuncData} (F : FunD K "high" "Move.high" (defArgs (sMove 8)) (defBody (sMove 8)) (defScope (sMove 8)) [] [] f fd) (T : MF K mg) : FnOk P w K mg base CX0 1 f fd ["self"] (spMGet K fun _ _ h => h) := by
  refine F.ok scM8 (fun vs H Q E h => ?_) (fun cdv A outer s H vs Q E hr h => ?_)
  · obtain ⟨s, d, u, lo, hi, rfl, _⟩ := h
    rfl
  · obtain ⟨s, d, u, lo, hi, rfl, ⟨d1, le, dx, pa, pb, pc, es, ha, hb, hc⟩, k⟩ := h
    exact ⟨_, pss_one (ps_ret (pe_fld (pv 0) rfl)), _, rfl, s, _, dx, _, _, rfl, es, T.cl, T.nH, rfl, k _ hc⟩
theorem scR4 : FnScope ["self"] ["self"] (defScope (sRatio 4)) := ⟨rfl, rfl, rfl, by decide +kernel, rfl, by decide +kernel, by decide +kernel⟩
theorem ok_top {f : Addr} {fd : FuncData} (F : FunD K "top" "Ratio.top" (defArgs (sRatio 4)) (defBody (sRatio 4)) (defScope (sRatio 4)) [] [] f fd) (T : RF K mg) : FnOk P w K mg base CX0 1 f fd ["self"] (fun vs H Q _ => ∃ (a : Addr) (q : Rat), vs = [.ref a] ∧ RatAt K H a q ∧ Q (.int q.num) H) := by
  refine F.ok scR4 (fun vs H Q E h => ?_) (fun cdv A outer s H vs Q E hr h => ?_)
  · obtain ⟨a, q, rfl, _⟩ := h
    rfl
  · obtain ⟨a, q, rfl, ⟨d, e⟩, k⟩ := h
    exact ⟨_, pss_one (ps_ret (pe_fld (pv 0) rfl)), _, rfl, a, _, d, _, _, rfl, e, T.cl, T.nT, rfl, k⟩
theorem scR5 : FnScope ["self"] ["self"] (defScope (sRatio 5)) := ⟨rfl, rfl, rfl, by decide +kernel, rfl, by decide +kernel, by decide +kernel⟩
theorem ok_bottom {f : Addr} {fd : FuncData} (F : FunD K "bottom" "Ratio.bottom" (defArgs (sRatio 5)) (defBody (sRatio 5)) (defScope (sRatio 5)) [] [] f fd) (T : RF K mg) : FnOk P w K mg base CX0 1 f fd ["self"] (fun vs H Q _ => ∃ (a : Addr) (q : Rat), vs = [.ref a] ∧ RatAt K H a q ∧ Q (.int (q.den : Int)) H) := by
  refine F.ok scR5 (fun vs H Q E h => ?_) (fun cdv A outer s H vs Q E hr h => ?_)
  · obtain ⟨a, q, rfl, _⟩ := h
    rfl
  · obtain ⟨a, q, rfl, ⟨d, e⟩, k⟩ := h
    exact ⟨_, pss_one (ps_ret (pe_fld (pv 0) rfl)), _, rfl, a, _, d, _, _, rfl, e, T.cl, T.nB, rfl, k⟩
end
end K18
set_option maxHeartbeats 4000000
/-! xs[::-1] of a list. -/
namespace GL
open PySem PySem.Spec PyProof.Rows L2
/-- a new list, the other way round -/
def tRev (K : PySem.W.Frag) (te : TE) (tk : TO) : TE := fun z H Q => te z H fun x H1 => tk z H1 fun k H2 => k = some (-1) ∧ ∃ a xs, x = .ref a ∧ SqL K H2 a xs ∧ ∀ p, H2 p = none → Q (.ref p) (upd H2 p (.lst xs.reverse))
theorem pe_rev {X : Cx} {e st : Expr} {te : TE} {tk : TO} {pos p2 : Pos} (he : PE X e te) (hk : PO X (some st) tk)
    (hs : ∀ a l : Addr, subscripted (.Slice none none (some st) p2) false (.ref a) (.ref l) = operate [.ref a, .ref l] (getItem (.ref a) (.ref l)) := by intros; with_unfolding_all rfl) : PE X (.Subscript e (.Slice none none (some st) p2) pos) (tRev X.K te tk) := by
  constructor
  intro pins s z H Q I h
  apply Subscript_
  refine thn (he.run pins s z H _ I h) ?_
  rintro v s1 ⟨x, H1, I1, r1, q1⟩
  apply wpAny_Slice
  rw [evalPart_none]
  apply wpAny_pure
  apply wpAny_pure
  refine thn (hk.run pins s1 z H1 _ I1 q1) ?_
  rintro vk s2 ⟨k, H2, I2, pk, rfl, a, xs, rfl, hx, q⟩
  cases (show v = Value.ref a from r1)
  have I3 : Inv X pins z H2 { s2 with heap := s2.heap.push { cls := .type "slice", data := .fields #[.none, .none, vk] } } := I2.kept (t' := s2.toks) fun b o y => Heap.get?_push_of_some _ y
  obtain ⟨its, r, ht, hz⟩ := I3.list hx
  have hlen := r.length
  show wpAny (model X.prog X.w) X.A (subscriptTail e (.Slice none none (some st) p2) (.ref a) (.ref s2.heap.objs.size)) (EP X pins z Q) X.xe { s2 with heap := s2.heap.push { cls := .type "slice", data := .fields #[.none, .none, vk] } }
  refine tail_any (ops := [.ref a, .ref s2.heap.objs.size]) ht.isList.typeIs slot_list_getitem.lookup ?_ (hs _ _)
  refine wpAny_getItem_list_slice ht.isList (Heap.IsSliceOf.new ..) .none .none pk (by decide) ?_ (by rw [List.size_toArray]; omega)
  rw [PySem.W.krv_pick]
  refine ⟨.ref _, _, I3.laid (t' := s2.toks) (o := .lst xs.reverse) (fun b o y => Heap.get?_push_of_some _ y) (Nat.le_refl _) ?_, rfl, q _ (I3.hok.fresh (Nat.le_refl _))⟩
  refine ⟨by rw [List.length_reverse]; omega, its.reverse, 0, paired_rev r, Heap.get?_push_size _ rfl⟩
/-! ### a statement, its end told once for all its ways -/
def tCut (t u : TS) : TS := fun D z H => ∃ Mid : L2.St → Hp → Prop, t { D with nx := Mid } z H ∧ ∀ z' H', Mid z' H' → u D z' H'
theorem pss_cut {X : Cx} {st : Stmt} {rest : List Stmt} {t u : TS} (one : PS X st t) (more : PSs X rest u) : PSs X (st :: rest) (tCut t u) := by
  constructor
  intro pins s z H D I ⟨Mid, first, go⟩
  apply wpAny_execs_cons
  refine thn (one.run pins s z H { D with nx := Mid } I first) ?_
  intro f s1 q
  match f, q with
  | .ret v, q => exact q
  | .brk, q => exact q
  | .cont, q => exact q
  | .next, ⟨z', H', J, m⟩ => exact more.run pins s1 z' H' D J (go z' H' m)
end GL
set_option maxHeartbeats 4000000
namespace K18
open PySem PySem.Spec PyProof.Rows L2 GL
abbrev sRng : Stmt := tp 23
abbrev sDraw : Stmt := tp 24
abbrev sChoice : Stmt := tp 25
/-- names of Python's own that the module leaves alone -/
structure Free (mg : Str → Option Value) : Prop where
  len : mg "len" = none
  abs : mg "abs" = none
  max : mg "max" = none
  min : mg "min" = none
  int : mg "int" = none
  divmod : mg "divmod" = none
  range : mg "range" = none
  all : mg "all" = none
  str : mg "str" = none
  list : mg "list" = none
  repr : mg "repr" = none
  any : mg "any" = none
/-- the state of a drawing: a list of two numbers -/
def Rng (H : Hp) (p : Addr) : Prop := ∃ x y : Int, H p = some (.lst [.int x, .int y]) ∧ 0 ≤ y ∧ y < 2 ^ 40
def spRng (K : PySem.W.Frag) : Sp := fun vs H Q _ => ∃ (a : Addr) (ns : List Int) (i : Int), vs = [.ref a, .int i] ∧ SqL K H a (ns.map V.int) ∧ 0 ≤ i ∧ i < 100 ∧
  ∀ p H', H p = none → Same H H' → Rng H' p → Q (.ref p) H'
section
variable {P : Program} {w : World} {K : PySem.W.Frag} {mg : Str → Option Value} {base : Heap}
theorem scRng : FnScope ["_law_script", "_law_spot", "_law_cell"] ["_law_script", "_law_spot"] (defScope sRng) := ⟨rfl, rfl, rfl, by decide +kernel, rfl, by decide +kernel, by decide +kernel⟩
theorem fm_bd (a : Int) {b : Int} (hb : 0 < b) : 0 ≤ a.fmod b ∧ a.fmod b < b := by
  rw [Int.fmod_eq_emod_of_nonneg _ (by omega)]
  exact ⟨Int.emod_nonneg _ (by omega), Int.emod_lt_of_pos _ hb⟩
theorem ok_rng {f : Addr} {fd : FuncData} (F : Fun K "_law_rng" "_law_rng" sRng f fd) (T : Free mg) : FnOk P w K mg base CX0 1 f fd ["_law_script", "_law_spot"] (spRng K) := by
  refine F.ok scRng (fun vs H Q E h => ?_) (fun cdv A outer s H vs Q E hr h => ?_)
  · obtain ⟨a, ns, i, rfl, _⟩ := h
    rfl
  · obtain ⟨a, ns, i, rfl, hS, i0, i1, k⟩ := h
    refine ⟨_, pss_cons (ps_set (i := 2) scRng.nd rfl (Or.inl rfl)
        (pe_ifExp (pt_cmpR op_lt (pv 1) (pe_callB call_len_seq (by rfl) T.len PySem.boot_len (pa_cons (pv 0) pa_nil)) (nomark _))
          (pe_callB call_abs (by rfl) T.abs (by decide +kernel) (pa_cons (pe_ix ix_list (pv 0) (pv 1) (fun _ _ => rfl)) pa_nil))
          (pe_op op_add (pe_op op_mul pe_int (pv 1)) pe_int)))
      (pss_one (ps_ret (pe_lst (pa_cons (pe_callB (call_max2 rfl) (by rfl) T.max (by decide +kernel) (pa_cons pe_int (pa_cons (pe_op op_sub (pv 2) (pe_op op_pow pe_int pe_int)) pa_nil)))
        (pa_cons (pe_op op_add (pe_op op_modN (pe_callTy call_int1 (by rfl) T.int (by decide +kernel) (pa_cons
          (pe_op op_add (pe_op op_add (pe_op op_mul (pe_op op_modN (pe_callTy call_int1 (by rfl) T.int (by decide +kernel) (pa_cons (pv 2) pa_nil)) pe_int) pe_int) (pe_op op_mul pe_int (pv 1))) pe_int) pa_nil)) pe_int) pe_int) pa_nil))))), ?_⟩
    refine ⟨_, rfl, _, rfl, _, _, rfl, .inl hS, _, _, rfl, rfl, _, rfl, ?_⟩
    refine ite2 (fun c => ?_) (fun c => ?_)
    · have c' : i < ((ns.map V.int).length : Int) := of_decide_eq_true c
      obtain ⟨j, rfl⟩ : ∃ j : Nat, i = (j : Int) := ⟨i.toNat, by omega⟩
      have hj : j < ns.length := by rw [List.length_map] at c'; omega
      refine ⟨_, rfl, _, rfl, a, _, _, V.int ns[j], rfl, rfl, hS, atI_nat (by rw [List.getElem?_map, List.getElem?_eq_getElem hj]; rfl), _, rfl, ?_⟩
      generalize (if ns[j] < 0 then -ns[j] else ns[j]) = c
      (refine ⟨_, rfl, _, _, rfl, rfl, ⟨by decide, by decide, by decide⟩, _, _, rfl, rfl, _, _, rfl, _, rfl, .inl ⟨_, rfl, _, _, rfl, rfl, (by show (2147483543 : Int) ≠ 0; decide), _, _, rfl, rfl, .inr ⟨by decide, by decide⟩,
        _, rfl, _, _, rfl, rfl, .inl ⟨by decide, by decide⟩, _, _, rfl, rfl, _, _, rfl, rfl, .inl ⟨_, rfl, _, _, rfl, rfl, (by show (2147483629 : Int) ≠ 0; decide), _, _, rfl, rfl, by show 2 ≤ sizeLine; decide, fun p hp => ?_⟩⟩⟩
       refine k p _ hp (fun b o e => by rw [upd_ne (ne_of_none e hp)]; exact e) ⟨_, _, upd_same, ?_⟩
       have q := fm_bd (c.fmod 2147483543 * 39373 + 52361 * (j : Int) + 29) (b := 2147483629) (by decide)
       exact ⟨by omega, by omega⟩)
    · refine ⟨_, rfl, _, _, rfl, rfl, .inl ⟨by decide, by decide⟩, _, _, rfl, rfl, ?_⟩
      (refine ⟨_, rfl, _, _, rfl, rfl, ⟨by decide, by decide, by decide⟩, _, _, rfl, rfl, _, _, rfl, _, rfl, .inl ⟨_, rfl, _, _, rfl, rfl, (by show (2147483543 : Int) ≠ 0; decide), _, _, rfl, rfl, .inr ⟨by decide, by decide⟩,
        _, rfl, _, _, rfl, rfl, .inl ⟨by decide, by decide⟩, _, _, rfl, rfl, _, _, rfl, rfl, .inl ⟨_, rfl, _, _, rfl, rfl, (by show (2147483629 : Int) ≠ 0; decide), _, _, rfl, rfl, by show 2 ≤ sizeLine; decide, fun p hp => ?_⟩⟩⟩
       refine k p _ hp (fun b o e => by rw [upd_ne (ne_of_none e hp)]; exact e) ⟨_, _, upd_same, ?_⟩
       have q := fm_bd ((11 * i + 4).fmod 2147483543 * 39373 + 52361 * i + 29) (b := 2147483629) (by decide)
       exact ⟨by omega, by omega⟩)
/-! ### a number drawn -/
def spDraw : Sp := fun vs H Q _ => ∃ (p : Addr) (m : Int), vs = [.ref p, .int m] ∧ Rng H p ∧ 0 < m ∧ m < 1073741000 ∧
  ∀ d H', 0 ≤ d → d < m → (∀ b o, H b = some o → b ≠ p → H' b = some o) → Rng H' p → Q (.int d) H'
theorem scDraw : FnScope ["_law_rng_here", "_law_many", "_law_digit"] ["_law_rng_here", "_law_many"] (defScope sDraw) := ⟨rfl, rfl, rfl, by decide +kernel, rfl, by decide +kernel, by decide +kernel⟩
theorem ok_draw {f : Addr} {fd : FuncData} (F : Fun K "_law_draw" "_law_draw" sDraw f fd) (T : Free mg) : FnOk P w K mg base CX0 1 f fd ["_law_rng_here", "_law_many"] spDraw := by
  refine F.ok scDraw (fun vs H Q E h => ?_) (fun cdv A outer s H vs Q E hr h => ?_)
  · obtain ⟨p, m, rfl, _⟩ := h
    rfl
  · obtain ⟨p, m, rfl, ⟨x, y, hp, y0, y1⟩, m0, m1, k⟩ := h
    refine ⟨_, pss_cons (ps_if (pt_cmpR op_gt (pe_ix ix_list (pv 0) pe_int (fun _ _ => rfl)) pe_int (nomark _))
        (pss_cons (ps_asg (pe_callB call_divmod (by rfl) T.divmod (by decide +kernel) (pa_cons (pe_ix ix_list (pv 0) pe_int (fun _ _ => rfl)) (pa_cons (pv 1) pa_nil)))
            (pg_tup (by rfl) (pgs_cons (pg_sub (pv 0) pe_int set_list) (pgs_cons (pg_name (i := 2) scDraw.nd rfl (.inl rfl)) pgs_nil))))
          (pss_one (ps_ret (pv 2)))) pss_nil)
      (pss_cons (ps_asg (pe_op op_modN (pe_callTy call_int1 (by rfl) T.int (by decide +kernel) (pa_cons (pe_op op_add (pe_op op_mul (pe_ix ix_list (pv 0) pe_int (fun _ _ => rfl)) pe_int) pe_int) pa_nil)) pe_int) (pg_sub (pv 0) pe_int set_list))
        (pss_one (ps_ret (pe_op op_modN (pe_callTy call_int1 (by rfl) T.int (by decide +kernel) (pa_cons (pe_op op_fdiv (pe_op op_modN (pe_callTy call_int1 (by rfl) T.int (by decide +kernel)
          (pa_cons (pe_op op_mul (pe_ix ix_list (pv 0) pe_int (fun _ _ => rfl)) (pe_ix ix_list (pv 0) pe_int (fun _ _ => rfl))) pa_nil)) pe_int) pe_int) pa_nil)) (pv 1))))), ?_⟩
    refine ⟨_, rfl, p, _, _, _, rfl, rfl, SqL.of hp, rfl, _, _, rfl, rfl, _, rfl, ?_⟩
    refine ite2 (fun c => ?_) (fun c => ?_)
    · refine ⟨_, rfl, p, _, _, _, rfl, rfl, SqL.of hp, rfl, _, rfl, ?_⟩
      refine ⟨_, _, rfl, ⟨m0, by omega⟩, fun t ht => ?_⟩
      have hpt : p ≠ t := ne_of_none hp ht
      refine ⟨t, _, rfl, SqT.of upd_same, rfl, _, _, rfl, _, rfl, p, _, _, 0, rfl, rfl, by rw [upd_ne hpt]; exact hp, rfl, _, _, rfl, rfl, _, rfl, ?_⟩
      refine k _ _ (Int.emod_nonneg _ (by omega)) (Int.emod_lt_of_pos _ m0) (fun b o e hb => by rw [upd_ne hb, upd_ne (ne_of_none e ht)]; exact e) ⟨_, _, upd_same, y0, y1⟩
    · refine ⟨_, rfl, p, _, _, _, rfl, rfl, SqL.of hp, rfl, _, _, rfl, rfl, .inr ⟨by decide, by decide⟩, _, _, rfl, rfl, .inl ⟨_, rfl, _, _, rfl, rfl, (by show (2147483587 : Int) ≠ 0; decide), _, rfl, p, _, _, 1, rfl, rfl, hp, rfl, ?_⟩⟩
      have q := fm_bd (y * 48271 + 12227) (b := 2147483587) (by decide)
      refine ⟨_, rfl, p, _, _, _, rfl, rfl, SqL.of upd_same, rfl, _, rfl, p, _, _, _, rfl, rfl, SqL.of upd_same, rfl, _, _, rfl, rfl, .inl ⟨by omega, by omega⟩, .inl ⟨_, rfl, _, _, rfl, rfl, (by show (2147483549 : Int) ≠ 0; decide), _, _, rfl, rfl, ⟨by decide, by decide⟩,
        .inl ⟨_, rfl, _, rfl, _, _, rfl, rfl, (by show m ≠ 0; omega), ?_⟩⟩⟩
      have r := fm_bd (((y * 48271 + 12227).fmod 2147483587 * (y * 48271 + 12227).fmod 2147483587).fmod 2147483549 / 13) m0
      exact k _ _ r.1 r.2 (fun b o e hb => by rw [upd_ne hb]; exact e) ⟨_, _, upd_same, by omega, by omega⟩

/-! ### one of several -/
def spChoice (K : PySem.W.Frag) : Sp := fun vs H Q _ => ∃ (p l : Addr) (xs : List V), vs = [.ref p, .ref l] ∧ Rng H p ∧ H l = some (.lst xs) ∧ l ≠ p ∧ 0 < xs.length ∧ xs.length < 1000 ∧
  ∀ v H', v ∈ xs → (∀ b o, H b = some o → b ≠ p → H' b = some o) → Rng H' p → Q v H'
theorem scChoice : FnScope ["_law_rng_here", "_law_some"] ["_law_rng_here", "_law_some"] (defScope sChoice) := ⟨rfl, rfl, rfl, by decide +kernel, rfl, by decide +kernel, by decide +kernel⟩
theorem ok_choice {f fD : Addr} {fd fdD : FuncData} (F : Fun K "_law_choice" "_law_choice" sChoice f fd) (T : Free mg) (FD : Fun K "_law_draw" "_law_draw" sDraw fD fdD) (gD : mg "_law_draw" = some (.ref fD)) (bD : Binds K fdD ["_law_rng_here", "_law_many"] []) :
    FnOk P w K mg base CX0 2 f fd ["_law_rng_here", "_law_some"] (spChoice K) := by
  have GD : FnOk P w K mg base CX0 1 fD fdD ["_law_rng_here", "_law_many"] spDraw := ok_draw FD T
  refine F.ok scChoice (fun vs H Q E h => ?_) (fun cdv A outer s H vs Q E hr h => ?_)
  · obtain ⟨p, l, xs, rfl, _⟩ := h
    rfl
  · obtain ⟨p, l, xs, rfl, R, hl, hlp, x0, x1, k⟩ := h
    refine ⟨_, pss_one (ps_ret (pe_ix ix_list (pv 1) (pe_call GD hr rfl gD FD.kp bD .nil pass0 (pa_cons (pv 0) (pa_cons (pe_callB call_len_seq (by rfl) T.len PySem.boot_len (pa_cons (pv 1) pa_nil)) pa_nil))) (fun _ _ => rfl))), ?_⟩
    refine ⟨_, rfl, _, rfl, _, rfl, _, _, rfl, .inl (SqL.of hl), ?_⟩
    refine ⟨p, _, rfl, R, by omega, by omega, fun d H' d0 d1 kp R' => ?_⟩
    obtain ⟨j, rfl⟩ : ∃ j : Nat, d = (j : Int) := ⟨d.toNat, by omega⟩
    have hj : j < xs.length := by omega
    exact ⟨l, _, _, _, rfl, rfl, SqL.of (kp l _ hl hlp), atI_nat (List.getElem?_eq_getElem hj), k _ _ (List.getElem_mem hj) kp R'⟩
end
end K18
set_option maxHeartbeats 4000000
namespace K18
open PySem PySem.Spec PyProof.Rows L2 GL
abbrev sPlain : Stmt := tp 26
theorem plain_norm {t b : Int} (hb : b ≠ 0) : ((if b < 0 then -1 else 1) * t).fdiv (t.natAbs.gcd b.natAbs : Int) = (Rat.divInt t b).num ∧ (b.natAbs : Int).fdiv (t.natAbs.gcd b.natAbs : Int) = ((Rat.divInt t b).den : Int) := by
  have N := norm (t := t) hb
  by_cases p : 0 < b
  · rw [if_pos p] at N
    have e : (b.natAbs : Int) = b := by omega
    rw [if_neg (by omega), Int.one_mul, e]
    exact N
  · have n : b < 0 := by omega
    rw [if_neg p] at N
    have e : (b.natAbs : Int) = -b := by omega
    rw [if_pos n, Int.neg_one_mul, e]
    have f1 : (-t).fdiv (t.natAbs.gcd b.natAbs : Int) = t.fdiv (-(t.natAbs.gcd b.natAbs : Int)) := by
      rw [← Int.neg_fdiv_neg, Int.neg_neg]
    have f2 : (-b).fdiv (t.natAbs.gcd b.natAbs : Int) = b.fdiv (-(t.natAbs.gcd b.natAbs : Int)) := by
      rw [← Int.neg_fdiv_neg, Int.neg_neg]
    rw [f1, f2]
    exact N
theorem abs_is (i : Int) : (if i < 0 then -i else i) = (i.natAbs : Int) := by
  split <;> omega
section
variable {P : Program} {w : World} {K : PySem.W.Frag} {mg : Str → Option Value} {base : Heap}
def spPlain (K : PySem.W.Frag) : Sp := fun vs H Q _ => ∃ (t b : Int), vs = [.int t, .int b] ∧ b ≠ 0 ∧ t.natAbs < 2 ^ 4000 ∧ b.natAbs < 2 ^ 4000 ∧ ∀ p H', Same H H' → H p = none → H' p = some (.tup [.int (Rat.divInt t b).num, .int ((Rat.divInt t b).den : Int)]) → Q (.ref p) H'
theorem scPlain : FnScope ["_law_top", "_law_bottom", "_law_first", "_law_second", "_law_sign"] ["_law_top", "_law_bottom"] (defScope sPlain) := ⟨rfl, rfl, rfl, by decide +kernel, rfl, by decide +kernel, by decide +kernel⟩
theorem ok_plain {f : Addr} {fd : FuncData} (F : Fun K "_law_plain" "_law_plain" sPlain f fd) (T : Free mg) : FnOk P w K mg base CX0 1 f fd ["_law_top", "_law_bottom"] (spPlain K) := by
  refine F.ok scPlain (fun vs H Q E h => ?_) (fun cdv A outer s H vs Q E hr h => ?_)
  · obtain ⟨t, b, rfl, _⟩ := h
    rfl
  · obtain ⟨t, b, rfl, hb, ht, hz, k⟩ := h
    refine ⟨_, pss_cons (ps_par (i := 2) (j := 3) (by rfl) scPlain.nd rfl rfl (by decide) rfl rfl (pa_cons (pe_callB call_abs (by rfl) T.abs (by decide +kernel) (pa_cons (pv 0) pa_nil)) (pa_cons (pe_callB call_abs (by rfl) T.abs (by decide +kernel) (pa_cons (pv 1) pa_nil)) pa_nil)) (by rfl))
      (pss_cons (ps_while PassesOwn.never (pt_cmpR op_ne (pv 3) pe_int (nomark _)) (pss_one (ps_par (i := 2) (j := 3) (by rfl) scPlain.nd rfl rfl (by decide) rfl rfl (pa_cons (pv 3) (pa_cons (pe_op op_modN (pe_callTy call_int1 (by rfl) T.int (by decide +kernel) (pa_cons (pv 2) pa_nil)) (pv 3)) pa_nil)) (by rfl))))
      (pss_cons (ps_set (i := 4) scPlain.nd rfl (Or.inl rfl) (pe_ifExp (pt_cmpR op_lt (pv 1) pe_int (nomark _)) (pe_un un_neg pe_int) pe_int))
      (pss_one (ps_ret (pe_tup (pa_cons (pe_op op_fdivZ (pe_op op_mul (pv 4) (pv 0)) (pv 2)) (pa_cons (pe_op op_fdivZ (pe_callB call_abs (by rfl) T.abs (by decide +kernel) (pa_cons (pv 1) pa_nil)) (pv 2)) pa_nil))))))), ?_⟩
    refine ⟨_, rfl, _, rfl, _, rfl, _, rfl, _, _, rfl, ?_⟩
    rw [abs_is, abs_is]
    have gp : 0 < t.natAbs.gcd b.natAbs := Nat.gcd_pos_of_pos_right _ (Int.natAbs_pos.mpr hb)
    have gl : (t.natAbs.gcd b.natAbs).log2 < 9000 := log2_lt (Nat.lt_of_lt_of_le (Nat.lt_of_le_of_lt (Nat.gcd_le_right _ (Int.natAbs_pos.mpr hb)) hz) (Nat.pow_le_pow_right (by decide) (by decide))) (by decide)
    have N := plain_norm (t := t) hb
    generalize hG : t.natAbs.gcd b.natAbs = G at *
    refine ⟨fun m σ H' => ∃ f s : Nat, m = s ∧ H' = H ∧ σ = [some (.int t), some (.int b), some (.int (f : Int)), some (.int (s : Int)), none] ∧ f.gcd s = G, ⟨_, t.natAbs, b.natAbs, rfl, rfl, rfl, hG⟩, ?_⟩
    rintro s σ H1 ⟨f, s2, rfl, rfl, rfl, hg⟩
    refine ⟨_, rfl, rfl, _, rfl, ?_⟩
    by_cases z : s = 0
    · have e : (!decide (V.int (s : Int) = V.int 0)) = false := by rw [z]; rfl
      dsimp only
      rw [e]
      subst z
      rw [Nat.gcd_zero_right] at hg
      subst hg
      have fin : ∀ sg : Int, sg = (if b < 0 then -1 else 1) → tRet (tTup (tCons (tOp (rI (fun _ j => j ≠ 0 ∧ j.natAbs.log2 < 9000) fun i j => .int (i.fdiv j)) (tOp (rI (fun i j => (-(2 ^ 64) < i ∧ i < 2 ^ 64) ∨ (-(2 ^ 64) < j ∧ j < 2 ^ 64)) fun i j => .int (i * j)) (tVar 4) (tVar 0)) (tVar 2)) (tCons (tOp (rI (fun _ j => j ≠ 0 ∧ j.natAbs.log2 < 9000) fun i j => .int (i.fdiv j)) (tCB (fun xs H Q => ∃ n, xs = [V.int n] ∧ Q (.int (if n < 0 then -n else n)) H) (tCons (tVar 1) tNil)) (tVar 2)) tNil))) { nx := fun _ H' => Q .non H', rt := Q } [some (.int t), some (.int b), some (.int (f : Int)), some (.int ((0 : Nat) : Int)), some (.int sg)] H1 := by
        rintro sg rfl
        refine ⟨_, rfl, _, rfl, _, _, rfl, rfl, .inl (by split <;> decide), _, rfl, _, _, rfl, rfl, ⟨by omega, by rw [Int.natAbs_natCast]; exact gl⟩, _, rfl, _, rfl, _, rfl, _, _, rfl, rfl, ⟨by omega, by rw [Int.natAbs_natCast]; exact gl⟩, (by show 2 ≤ sizeLine; decide), fun p np => ?_⟩
        rw [abs_is]
        dsimp only
        rw [N.1, N.2]
        exact k p _ (fun b o e => by rw [upd_ne (ne_of_none e np)]; exact e) np upd_same
      refine iteF ⟨_, rfl, _, _, rfl, rfl, _, rfl, ?_⟩
      refine ite2 (fun c => ?_) (fun c => ?_)
      · exact ⟨_, rfl, fin _ (by rw [if_pos (of_decide_eq_true c)])⟩
      · exact fin _ (by rw [if_neg fun y => c (decide_eq_true y)])
    · have e : (!decide (V.int (s : Int) = V.int 0)) = true := by
        have : decide (V.int (s : Int) = V.int 0) = false := decide_eq_false fun y => by
          injection y with y
          omega
        rw [this]
        rfl
      dsimp only
      rw [e]
      refine iteT ⟨fun σ' H' => H' = H1 ∧ σ' = [some (.int t), some (.int b), some (.int (s : Int)), some (.int ((f % s : Nat) : Int)), none], ?_, ?_⟩
      · rintro σ' H' ⟨rfl, rfl⟩
        refine ⟨f % s, Nat.mod_lt _ (by omega), s, f % s, rfl, rfl, rfl, ?_⟩
        rw [← hg, Nat.gcd_comm s, ← Nat.gcd_rec, Nat.gcd_comm]
      · refine ⟨_, rfl, _, rfl, .inl ⟨_, rfl, _, rfl, _, _, rfl, rfl, (by show (s : Int) ≠ 0; omega), _, _, rfl, rfl, ?_⟩⟩
        show [some (V.int t), some (.int b), some (.int (s : Int)), some (.int ((f : Int).fmod (s : Int))), none] = _
        rw [Int.fmod_eq_emod_of_nonneg _ (by omega)]
        rfl
end
end K18
set_option maxHeartbeats 4000000
namespace K18
open PySem PySem.Spec PyProof.Rows L2 GL
abbrev sFrac : Stmt := tp 29
theorem off_kp {H H' : Hp} {p : Addr} (k : ∀ b o, H b = some o → b ≠ p → H' b = some o) : Same (off H p) H' := fun b o e => k b o (off_some e).2 (off_some e).1
theorem off_off {H H1 H2 : Hp} {p : Addr} (k : Same (off H p) H1) (j : Same (off H1 p) H2) : Same (off H p) H2 := fun b o e => j b o (off_same k b o e)
theorem Rng.ne {H : Hp} {p t : Addr} {xs : List V} (R : Rng H p) (h : H t = some (.tup xs)) : t ≠ p := by
  obtain ⟨x, y, e, _⟩ := R
  rintro rfl
  rw [e] at h
  cases h
theorem Rng.same {H H' : Hp} {p : Addr} (R : Rng H p) (k : Same H H') : Rng H' p := by
  obtain ⟨x, y, e, z⟩ := R
  exact ⟨x, y, k _ _ e, z⟩
section
variable {P : Program} {w : World} {K : PySem.W.Frag} {mg : Str → Option Value} {base : Heap}
def spFrac (K : PySem.W.Frag) : Sp := fun vs H Q _ => ∃ p : Addr, vs = [.ref p] ∧ Rng H p ∧ ∀ t q H', Same (off H p) H' → Rng H' p → H' t = some (.tup [.int q.num, .int (q.den : Int)]) → Sz 80 q → Q (.ref t) H'
theorem scFrac : FnScope ["_law_rng_here"] ["_law_rng_here"] (defScope sFrac) := ⟨rfl, rfl, rfl, by decide +kernel, rfl, by decide +kernel, by decide +kernel⟩
structure DA (P : Program) (w : World) (K : PySem.W.Frag) (mg : Str → Option Value) (base : Heap) : Prop where
  F : Free mg
  draw : DefF P w K mg base "_law_draw" 1 ["_law_rng_here", "_law_many"] spDraw
  choice : DefF P w K mg base "_law_choice" 2 ["_law_rng_here", "_law_some"] (spChoice K)
  plain : DefF P w K mg base "_law_plain" 1 ["_law_top", "_law_bottom"] (spPlain K)
theorem ok_frac {f : Addr} {fd : FuncData} (F : Fun K "_law_fraction" "_law_fraction" sFrac f fd) (D : DA P w K mg base) : FnOk P w K mg base CX0 3 f fd ["_law_rng_here"] (spFrac K) := by
  obtain ⟨fD, fdD, GD, gD, bD, kD⟩ := D.draw
  obtain ⟨fC, fdC, GC, gC, bC, kC⟩ := D.choice
  obtain ⟨fP, fdP, GP, gP, bP, kP⟩ := D.plain
  refine F.ok scFrac (fun vs H Q E h => ?_) (fun cdv A outer s H vs Q E hr h => ?_)
  · obtain ⟨p, rfl, _⟩ := h
    rfl
  · obtain ⟨p, rfl, R, k⟩ := h
    refine ⟨_, pss_cons (ps_if (pt_cmpR op_eq (pe_call GD (hr.mono (by decide)) rfl gD kD bD .nil pass0 (pa_cons (pv 0) (pa_cons pe_int pa_nil))) pe_int (nomark _))
        (pss_one (ps_ret (pe_call GP (hr.mono (by decide)) rfl gP kP bP .nil pass0 (pa_cons (pe_call GC hr rfl gC kC bC .nil pass0 (pa_cons (pv 0) (pa_cons (pe_lst (pa_cons (pe_op op_add (pe_op op_pow pe_int pe_int) pe_int) (pa_cons (pe_un un_neg (pe_op op_pow pe_int pe_int)) (pa_cons (pe_op op_mul pe_int (pe_op op_pow pe_int pe_int)) pa_nil)))) pa_nil)))
          (pa_cons (pe_op op_add pe_int (pe_call GD (hr.mono (by decide)) rfl gD kD bD .nil pass0 (pa_cons (pv 0) (pa_cons (pe_op op_pow pe_int pe_int) pa_nil)))) pa_nil))))) pss_nil)
      (pss_one (ps_ret (pe_call GP (hr.mono (by decide)) rfl gP kP bP .nil pass0 (pa_cons (pe_op op_sub (pe_call GD (hr.mono (by decide)) rfl gD kD bD .nil pass0 (pa_cons (pv 0) (pa_cons pe_int pa_nil))) pe_int)
        (pa_cons (pe_call GC hr rfl gC kC bC .nil pass0 (pa_cons (pv 0) (pa_cons (pe_lst (pa_cons pe_int (pa_cons pe_int (pa_cons pe_int (pa_cons pe_int (pa_cons pe_int (pa_cons pe_int pa_nil))))))) pa_nil))) pa_nil))))), ?_⟩
    -- the ends of both ways
    have fin : ∀ {t b : Int} {H1 : Hp}, Same (off H p) H1 → Rng H1 p → b ≠ 0 → t.natAbs < 2 ^ 80 → b.natAbs < 2 ^ 80 → spPlain K [.int t, .int b] H1 Q (fun _ _ _ => False) := by
      intro t b H1 k1 R1 hb ht hz
      refine ⟨t, b, rfl, hb, Nat.lt_of_lt_of_le ht (Nat.pow_le_pow_right (by decide) (by decide)), Nat.lt_of_lt_of_le hz (Nat.pow_le_pow_right (by decide) (by decide)), fun q H2 k2 nq e2 => ?_⟩
      exact k q _ H2 (fun b o e => k2 b o (k1 b o e)) (R1.same k2) e2 (divInt_sz hb ht hz)
    have new : ∀ {H1 : Hp} {l : Addr} {xs : List V}, H1 l = none → Rng H1 p → Same H1 (upd H1 l (.lst xs)) ∧ Rng (upd H1 l (.lst xs)) p ∧ l ≠ p := by
      intro H1 l xs nl R1
      have up : Same H1 (upd H1 l (.lst xs)) := fun b o e => by rw [upd_ne (ne_of_none e nl)]; exact e
      obtain ⟨x, y, e, z⟩ := id R1
      exact ⟨up, R1.same up, (ne_of_none e nl).symm⟩
    refine ⟨_, rfl, p, 16, rfl, R, by decide, by decide, fun d H1 d0 d1 k1 R1 => ⟨rfl, _, rfl, ?_⟩⟩
    have o1 := off_kp k1
    refine ite2 (fun c => ?_) (fun c => ?_)
    · refine ⟨_, rfl, _, _, rfl, rfl, ⟨by decide, by decide, by decide⟩, _, _, rfl, rfl, _, _, rfl, rfl, ⟨by decide, by decide, by decide⟩, _, rfl, _, _, rfl, rfl, ⟨by decide, by decide, by decide⟩, _, _, rfl, rfl, .inl ⟨by decide, by decide⟩, (by show 3 ≤ sizeLine; decide), fun l nl => ?_⟩
      obtain ⟨up, R2, nlp⟩ := new nl R1
      refine ⟨p, l, _, rfl, R2, upd_same, nlp, (by show 0 < 3; decide), (by show 3 < 1000; decide), fun v H3 hv k3 R3 => ?_⟩
      have o3 : Same (off H p) H3 := off_off o1 (fun b o e => k3 b o (up b o (off_some e).2) (off_some e).1)
      simp only [List.mem_cons, List.not_mem_nil, or_false] at hv
      obtain ⟨i, rfl, hi⟩ : ∃ i : Int, v = .int i ∧ i.natAbs < 2 ^ 80 := by
        rcases hv with rfl | rfl | rfl
        · exact ⟨_, rfl, by decide⟩
        · exact ⟨_, rfl, by decide⟩
        · exact ⟨_, rfl, by decide⟩
      refine ⟨_, rfl, _, _, rfl, rfl, ⟨by decide, by decide, by decide⟩, p, _, rfl, R3, by decide, by decide, fun e H4 e0 e1 k4 R4 => ⟨_, _, rfl, rfl, ?_⟩⟩
      have e1' : e < 1000000 := e1
      exact fin (off_off o3 (off_kp k4)) R4 (by omega) hi (Nat.lt_of_lt_of_le (by omega : (1 + e).natAbs < 2 ^ 20) (Nat.pow_le_pow_right (by decide) (by decide)))
    · refine ⟨_, rfl, p, 41, rfl, R1, by decide, by decide, fun e H2 e0 e1 k2 R2 => ⟨_, _, rfl, rfl, ?_⟩⟩
      have o2 := off_off o1 (off_kp k2)
      refine ⟨_, rfl, (by show 6 ≤ sizeLine; decide), fun l nl => ?_⟩
      obtain ⟨up, R3, nlp⟩ := new nl R2
      refine ⟨p, l, _, rfl, R3, upd_same, nlp, (by show 0 < 6; decide), (by show 6 < 1000; decide), fun v H4 hv k4 R4 => ?_⟩
      have o4 : Same (off H p) H4 := off_off o2 (fun b o e => k4 b o (up b o (off_some e).2) (off_some e).1)
      simp only [List.mem_cons, List.not_mem_nil, or_false] at hv
      obtain ⟨i, rfl, i0, i1⟩ : ∃ i : Int, v = .int i ∧ 1 ≤ i ∧ i ≤ 12 := by
        rcases hv with rfl | rfl | rfl | rfl | rfl | rfl
        · exact ⟨_, rfl, by decide, by decide⟩
        · exact ⟨_, rfl, by decide, by decide⟩
        · exact ⟨_, rfl, by decide, by decide⟩
        · exact ⟨_, rfl, by decide, by decide⟩
        · exact ⟨_, rfl, by decide, by decide⟩
        · exact ⟨_, rfl, by decide, by decide⟩
      exact fin o4 R4 (by omega) (Nat.lt_of_lt_of_le (by omega : (e - 20).natAbs < 2 ^ 5) (Nat.pow_le_pow_right (by decide) (by decide))) (Nat.lt_of_lt_of_le (by omega : i.natAbs < 2 ^ 4) (Nat.pow_le_pow_right (by decide) (by decide)))
end
end K18
set_option maxHeartbeats 4000000
namespace K18
open PySem PySem.Spec PyProof.Rows L2 GL
abbrev sSum : Stmt := tp 27
abbrev sLess : Stmt := tp 28
abbrev sReal : Stmt := tp 30
abbrev sOver : Stmt := tp 32
/-- a fraction of the law's own: a tuple of two numbers, in lowest terms -/
def PartAt (H : Hp) (t : Addr) (q : Rat) : Prop := H t = some (.tup [.int q.num, .int (q.den : Int)])
theorem PartAt.same {H H' : Hp} {t : Addr} {q : Rat} (h : PartAt H t q) (k : Same H H') : PartAt H' t q := k _ _ h
def DefG (P : Program) (w : World) (K : PySem.W.Frag) (mg : Str → Option Value) (base : Heap) (x : Str) (k : Nat) (ps : List Str) (sp : Sp) : Prop := ∃ f fd, FnG P w K mg base CX0 k f fd ps sp ∧ mg x = some (.ref f) ∧ Binds K fd ps [] ∧ PySem.W.keepIn K (.ref f) = true
section
variable {P : Program} {w : World} {K : PySem.W.Frag} {mg : Str → Option Value} {base : Heap}
section
variable {H H' : Hp} {p : Addr}
theorem Same.offs (k : Same H H') : Same (off H p) (off H' p) := fun a o e => by
  rw [off_ne (off_some e).1]
  exact k _ _ (off_some e).2
theorem Rng.at_off {a : Addr} {o : HO} (R : Rng H p) (e : H a = some o) (n : ∀ xs, o ≠ .lst xs) : off H p a = some o := by
  obtain ⟨x, y, ep, _⟩ := R
  exact off_of ep e (n _)
theorem RatAt.offR {a : Addr} {q : Rat} (h : RatAt K H a q) (R : Rng H p) : RatAt K (GL.off H p) a q := by
  obtain ⟨d, e⟩ := h
  exact ⟨d, R.at_off e fun _ z => nomatch z⟩
theorem MovAt.offR {s : Addr} {d : Int} {u lo hi : Rat} (h : MovAt K H s d u lo hi) (R : Rng H p) : MovAt K (GL.off H p) s d u lo hi := by
  obtain ⟨l, m, dx, a, b, c, e, ha, hb, hc⟩ := h
  exact ⟨l, m, dx, a, b, c, R.at_off e (fun _ z => nomatch z), ha.offR R, hb.offR R, hc.offR R⟩
theorem made_movR {R : VK} {E : XK} {x dx : Addr} {d : Int} {y z v : V} {u q r : Rat} (hx : H x = none) (hd : H dx = none) (ne : dx ≠ x) (d1 : 1 ≤ d) (hu : NumAt K H y u) (hq : NumAt K H z q) (hr : NumAt K H v r) (sq : Sz 100000 q) (sr : Sz 100000 r) (le : rBelow r q = false)
    (k : ∀ H', Same H H' → MovAt K H' x d u q r → R .non H') :
    spMInit K [.ref x, .int d, y, z, v] (upd (upd H dx (.own x)) x (.ins (aM K) dx [])) R E := by
  have up : Same H (upd (upd H dx (.own x)) x (.ins (aM K) dx [])) := fun b o e => by rw [upd_ne (ne_of_none e hx), upd_ne (ne_of_none e hd)]; exact e
  exact ⟨x, dx, d, y, z, v, u, q, r, rfl, upd_same, d1, hu.same up, hq.same up, hr.same up, sq, sr, le, fun H' kp e => k H' (fun c o ec => kp c o (ne_of_none ec hx) (up _ _ ec)) e⟩
theorem PartAt.offR {t : Addr} {q : Rat} (h : PartAt H t q) (R : Rng H p) : PartAt (GL.off H p) t q := R.at_off h fun _ e => by cases e
theorem NumAt.offR {x : V} {q : Rat} (h : NumAt K H x q) (R : Rng H p) : NumAt K (GL.off H p) x q := by
  rcases h with h | ⟨a, e, h⟩
  · exact .inl h
  · exact .inr ⟨a, e, h.offR R⟩
end
theorem mul4 {i : Int} {n : Nat} {d : Nat} (hi : i.natAbs < 2 ^ n) (hd : d < 2 ^ n) (h0 : 0 < n) (h : n ≤ 1000) : CMulW i (d : Int) := wide_mul (a := n) (b := n) hi (by rw [Int.natAbs_natCast]; exact hd) h0 h0 (by omega)
/-! ### the sum of two -/
def spSum (K : PySem.W.Frag) : Sp := fun vs H Q _ => ∃ (s t : Addr) (q r : Rat), vs = [.ref s, .ref t] ∧ PartAt H s q ∧ PartAt H t r ∧ Sz 1000 q ∧ Sz 1000 r ∧ ∀ p H', Same H H' → H p = none → PartAt H' p (rAdd q r) → Q (.ref p) H'
theorem scSum : FnScope ["_law_near_here", "_law_far"] ["_law_near_here", "_law_far"] (defScope sSum) := ⟨rfl, rfl, rfl, by decide +kernel, rfl, by decide +kernel, by decide +kernel⟩
theorem ok_sum {f : Addr} {fd : FuncData} (F : Fun K "_law_sum" "_law_sum" sSum f fd) (D : DA P w K mg base) : FnOk P w K mg base CX0 2 f fd ["_law_near_here", "_law_far"] (spSum K) := by
  obtain ⟨fP, fdP, GP, gP, bP, kP⟩ := D.plain
  refine F.ok scSum (fun vs H Q E h => ?_) (fun cdv A outer s H vs Q E hr h => ?_)
  · obtain ⟨s, t, q, r, rfl, _⟩ := h
    rfl
  · obtain ⟨s, t, q, r, rfl, hs, ht, sq, sr, k⟩ := h
    refine ⟨_, pss_one (ps_ret (pe_call GP hr rfl gP kP bP .nil pass0 (pa_cons (pe_op op_add (pe_op op_mulW (pe_ix ix_tup (pv 0) pe_int (fun _ _ => rfl)) (pe_ix ix_tup (pv 1) pe_int (fun _ _ => rfl))) (pe_op op_mulW (pe_ix ix_tup (pv 1) pe_int (fun _ _ => rfl)) (pe_ix ix_tup (pv 0) pe_int (fun _ _ => rfl))))
      (pa_cons (pe_op op_mulW (pe_ix ix_tup (pv 0) pe_int (fun _ _ => rfl)) (pe_ix ix_tup (pv 1) pe_int (fun _ _ => rfl))) pa_nil)))), ?_⟩
    refine ⟨_, rfl, s, _, _, _, rfl, rfl, SqT.of hs, rfl, _, rfl, t, _, _, _, rfl, rfl, SqT.of ht, rfl, _, _, rfl, rfl, mul4 sq.1 sr.den (by decide) (by decide), ?_⟩
    refine ⟨_, rfl, t, _, _, _, rfl, rfl, SqT.of ht, rfl, _, rfl, s, _, _, _, rfl, rfl, SqT.of hs, rfl, _, _, rfl, rfl, mul4 sr.1 sq.den (by decide) (by decide), _, _, rfl, rfl, ?_⟩
    refine ⟨_, rfl, s, _, _, _, rfl, rfl, SqT.of hs, rfl, _, rfl, t, _, _, _, rfl, rfl, SqT.of ht, rfl, _, _, rfl, rfl, mul4 (by rw [Int.natAbs_natCast]; exact sq.den) sr.den (by decide) (by decide), ?_⟩
    have z := rAdd_sz sq sr
    refine ⟨_, _, rfl, Int.mul_ne_zero (den_ne q) (den_ne r), ?_, ?_, fun p H' k' np e => k p H' k' np e⟩
    · have a := mul_lt sq.1 sr.den
      have b := mul_lt sr.1 sq.den
      have c := Int.natAbs_add_le (q.num * (r.den : Int)) (r.num * (q.den : Int))
      have d : 2 ^ (1000 + 1000) + 2 ^ (1000 + 1000) ≤ 2 ^ 4000 := by decide +kernel
      omega
    · exact Nat.lt_of_lt_of_le (mul_lt (by rw [Int.natAbs_natCast]; exact sq.den) sr.den) (Nat.pow_le_pow_right (by decide) (by decide))
/-! ### whether one is less -/
def spLess (K : PySem.W.Frag) : Sp := fun vs H Q _ => ∃ (s t : Addr) (q r : Rat), vs = [.ref s, .ref t] ∧ PartAt H s q ∧ PartAt H t r ∧ Sz 1000 q ∧ Sz 1000 r ∧ Q (.bl (rBelow q r)) H
theorem scLess : FnScope ["_law_near_here", "_law_far"] ["_law_near_here", "_law_far"] (defScope sLess) := ⟨rfl, rfl, rfl, by decide +kernel, rfl, by decide +kernel, by decide +kernel⟩
theorem ok_less {f : Addr} {fd : FuncData} (F : Fun K "_law_less" "_law_less" sLess f fd) : FnOk P w K mg base CX0 1 f fd ["_law_near_here", "_law_far"] (spLess K) := by
  refine F.ok scLess (fun vs H Q E h => ?_) (fun cdv A outer s H vs Q E hr h => ?_)
  · obtain ⟨s, t, q, r, rfl, _⟩ := h
    rfl
  · obtain ⟨s, t, q, r, rfl, hs, ht, sq, sr, k⟩ := h
    refine ⟨_, pss_one (ps_ret (pe_cmpR op_lt (pe_op op_mulW (pe_ix ix_tup (pv 0) pe_int (fun _ _ => rfl)) (pe_ix ix_tup (pv 1) pe_int (fun _ _ => rfl))) (pe_op op_mulW (pe_ix ix_tup (pv 1) pe_int (fun _ _ => rfl)) (pe_ix ix_tup (pv 0) pe_int (fun _ _ => rfl))) (nomark _))), ?_⟩
    refine ⟨_, rfl, s, _, _, _, rfl, rfl, SqT.of hs, rfl, _, rfl, t, _, _, _, rfl, rfl, SqT.of ht, rfl, _, _, rfl, rfl, mul4 sq.1 sr.den (by decide) (by decide), ?_⟩
    exact ⟨_, rfl, t, _, _, _, rfl, rfl, SqT.of ht, rfl, _, rfl, s, _, _, _, rfl, rfl, SqT.of hs, rfl, _, _, rfl, rfl, mul4 sr.1 sq.den (by decide) (by decide), _, _, rfl, rfl, k⟩
/-! ### the quotient -/
def spOverL (K : PySem.W.Frag) : Sp := fun vs H Q _ => ∃ (s t : Addr) (q r : Rat), vs = [.ref s, .ref t] ∧ PartAt H s q ∧ PartAt H t r ∧ r.num ≠ 0 ∧ Sz 1000 q ∧ Sz 1000 r ∧ ∀ p H', Same H H' → H p = none → PartAt H' p (rOver q r) → Q (.ref p) H'
theorem scOverL : FnScope ["_law_near_here", "_law_far"] ["_law_near_here", "_law_far"] (defScope sOver) := ⟨rfl, rfl, rfl, by decide +kernel, rfl, by decide +kernel, by decide +kernel⟩
theorem ok_overL {f : Addr} {fd : FuncData} (F : Fun K "_law_over" "_law_over" sOver f fd) (D : DA P w K mg base) : FnOk P w K mg base CX0 2 f fd ["_law_near_here", "_law_far"] (spOverL K) := by
  obtain ⟨fP, fdP, GP, gP, bP, kP⟩ := D.plain
  refine F.ok scOverL (fun vs H Q E h => ?_) (fun cdv A outer s H vs Q E hr h => ?_)
  · obtain ⟨s, t, q, r, rfl, _⟩ := h
    rfl
  · obtain ⟨s, t, q, r, rfl, hs, ht, r0, sq, sr, k⟩ := h
    refine ⟨_, pss_one (ps_ret (pe_call GP hr rfl gP kP bP .nil pass0 (pa_cons (pe_op op_mulW (pe_ix ix_tup (pv 0) pe_int (fun _ _ => rfl)) (pe_ix ix_tup (pv 1) pe_int (fun _ _ => rfl)))
      (pa_cons (pe_op op_mulW (pe_ix ix_tup (pv 0) pe_int (fun _ _ => rfl)) (pe_ix ix_tup (pv 1) pe_int (fun _ _ => rfl))) pa_nil)))), ?_⟩
    refine ⟨_, rfl, s, _, _, _, rfl, rfl, SqT.of hs, rfl, _, rfl, t, _, _, _, rfl, rfl, SqT.of ht, rfl, _, _, rfl, rfl, mul4 sq.1 sr.den (by decide) (by decide), ?_⟩
    refine ⟨_, rfl, s, _, _, _, rfl, rfl, SqT.of hs, rfl, _, rfl, t, _, _, _, rfl, rfl, SqT.of ht, rfl, _, _, rfl, rfl, wide_mul (a := 1000) (b := 1000) (by rw [Int.natAbs_natCast]; exact sq.den) sr.1 (by decide) (by decide) (by decide), ?_⟩
    refine ⟨_, _, rfl, Int.mul_ne_zero (den_ne q) r0, ?_, ?_, fun p H' k' np e => k p H' k' np e⟩
    · exact Nat.lt_of_lt_of_le (mul_lt sq.1 sr.den) (Nat.pow_le_pow_right (by decide) (by decide))
    · have := Nat.mul_lt_mul_of_lt_of_lt sq.den sr.1
      rw [Int.natAbs_mul, Int.natAbs_natCast]
      exact Nat.lt_of_lt_of_le this (by rw [← Nat.pow_add]; exact Nat.pow_le_pow_right (by decide) (by decide))
/-! ### as a number of the program's, or Python's own -/
def spReal (K : PySem.W.Frag) : Sp := fun vs H Q _ => ∃ (p t : Addr) (q : Rat), vs = [.ref p, .ref t] ∧ Rng H p ∧ PartAt H t q ∧ Sz 1000 q ∧ ∀ x H', Same (off H p) H' → Rng H' p → NumAt K H' x q → Q x H'
theorem scReal : FnScope ["_law_rng_here", "_law_part"] ["_law_rng_here", "_law_part"] (defScope sReal) := ⟨rfl, rfl, rfl, by decide +kernel, rfl, by decide +kernel, by decide +kernel⟩
theorem ok_real {f : Addr} {fd : FuncData} (F : Fun K "_law_real" "_law_real" sReal f fd) (D : DA P w K mg base) (G : RG P w K mg base) : FnOk P w K mg base CX0 4 f fd ["_law_rng_here", "_law_part"] (spReal K) := by
  obtain ⟨fD, fdD, GD, gD, bD, kD⟩ := D.draw
  obtain ⟨fR, fdR, dd, MR, GR, vd, bR, bR0⟩ := G.mR
  have T := G.T
  refine F.ok scReal (fun vs H Q E h => ?_) (fun cdv A outer s H vs Q E hr h => ?_)
  · obtain ⟨p, t, q, rfl, _⟩ := h
    rfl
  · obtain ⟨p, t, q, rfl, R, ht, sq, k⟩ := h
    refine ⟨_, pss_one (ps_ret (pe_ifExp (PW.pt (pw_and (pt_cmpR op_eq (pe_ix ix_tup (pv 1) pe_int (fun _ _ => rfl)) pe_int (nomark _)) (pw_and1 (pt_cmpR op_eq (pe_call GD (hr.mono (by decide)) rfl gD kD bD .nil pass0 (pa_cons (pv 0) (pa_cons pe_int pa_nil))) pe_int (nomark _)))))
      (pe_ix ix_tup (pv 1) pe_int (fun _ _ => rfl))
      (pe_make MR GR hr rfl T.gR bR0 .nil pass0 (pa_cons (pe_ix ix_tup (pv 1) pe_int (fun _ _ => rfl)) (pa_cons (pe_ix ix_tup (pv 1) pe_int (fun _ _ => rfl)) pa_nil))))), ?_⟩
    have made : ∀ (H1 : Hp), Same (off H p) H1 → Rng H1 p → H1 t = some (.tup [.int q.num, .int (q.den : Int)]) → ∀ x dx, H1 x = none → H1 dx = none → dx ≠ x → spRInit K [.ref x, .int q.num, .int (q.den : Int)] (upd (upd H1 dx (.own x)) x (.ins (aR K) dx [])) (fun v H2 => v = .non ∧ Q (.ref x) H2) E := by
      intro H1 k1 R1 h1 x dx hx hd ne
      refine made_rat hx hd ne (den_ne q) (Nat.lt_of_lt_of_le sq.den (Nat.pow_le_pow_right (by decide) (by decide))) fun a H2 k2 _ ha => ?_
      rw [Rat.num_divInt_den] at ha
      exact k (.ref a) H2 (fun b o e => k2 b o (k1 b o e)) (R1.same k2) (.inr ⟨a, rfl, ha⟩)
    refine ⟨_, rfl, t, _, _, _, rfl, rfl, SqT.of ht, rfl, rfl, _, rfl, ?_⟩
    have tp_ : t ≠ p := R.ne ht
    have go : ∀ (H1 : Hp), Same (off H p) H1 → H1 t = some (.tup [.int q.num, .int (q.den : Int)]) := fun H1 k1 => k1 t _ (by rw [off_ne tp_]; exact ht)
    refine ite2 (fun c => ?_) (fun c => ?_)
    · have c1 : (q.den : Int) = 1 := by
        have z := of_decide_eq_true c
        injection z
      refine ⟨_, rfl, p, 2, rfl, R, by decide, by decide, fun d H1 d0 d1 k1 R1 => ⟨rfl, _, rfl, ?_⟩⟩
      have o1 := off_kp k1
      refine ite2 (fun c2 => ?_) (fun c2 => ?_)
      · refine ⟨_, rfl, t, _, _, _, rfl, rfl, SqT.of (go H1 o1), rfl, k _ H1 o1 R1 (.inl ⟨q.num, rfl, ?_⟩)⟩
        refine Rat.ext ?_ ?_
        · rw [Rat.num_intCast]
        · rw [Rat.den_intCast]
          omega
      · exact ⟨_, rfl, t, _, _, _, rfl, rfl, SqT.of (go H1 o1), rfl, _, rfl, t, _, _, _, rfl, rfl, SqT.of (go H1 o1), rfl, made H1 o1 R1 (go H1 o1)⟩
    · have o0 : Same (off H p) H := fun b o e => (off_some e).2
      exact ⟨_, rfl, t, _, _, _, rfl, rfl, SqT.of ht, rfl, _, rfl, t, _, _, _, rfl, rfl, SqT.of ht, rfl, made H o0 R ht⟩
end
end K18
set_option maxHeartbeats 4000000
namespace K18
open PySem PySem.Spec PyProof.Rows L2 GL
abbrev sIs : Stmt := tp 31
abbrev sAtL : Stmt := tp 34
abbrev sMade : Stmt := tp 35
abbrev sIsMove : Stmt := tp 36
/-- a move of the law's own: divisor, plus, low, high -/
def RowAt (H : Hp) (t : Addr) (d : Int) (u lo hi : Rat) : Prop := ∃ a b c, H t = some (.tup [.int d, .ref a, .ref b, .ref c]) ∧ PartAt H a u ∧ PartAt H b lo ∧ PartAt H c hi
theorem RowAt.same {H H' : Hp} {t : Addr} {d : Int} {u lo hi : Rat} (h : RowAt H t d u lo hi) (k : Same H H') : RowAt H' t d u lo hi := by
  obtain ⟨a, b, c, ht, ha, hb, hc⟩ := h
  exact ⟨a, b, c, k _ _ ht, ha.same k, hb.same k, hc.same k⟩
section
variable {P : Program} {w : World} {K : PySem.W.Frag} {mg : Str → Option Value} {base : Heap}
/-! ### a Ratio shows a fraction -/
def spIs (K : PySem.W.Frag) : Sp := fun vs H Q _ => ∃ (a t : Addr) (q : Rat), vs = [.ref a, .ref t] ∧ RatAt K H a q ∧ PartAt H t q ∧ Sz 1900 q ∧ ∀ H', Same H H' → Q (.bl true) H'
theorem scIs : FnScope ["_law_made_here", "_law_part"] ["_law_made_here", "_law_part"] (defScope sIs) := ⟨rfl, rfl, rfl, by decide +kernel, rfl, by decide +kernel, by decide +kernel⟩
structure IsF (P : Program) (w : World) (K : PySem.W.Frag) (mg : Str → Option Value) (base : Heap) : Prop where
  N : RN P w K mg base
  D : DA P w K mg base
  S : SysK K
  top : PropX P w K mg base (aR K) "top" (fun vs H Q _ => ∃ (a : Addr) (q : Rat), vs = [.ref a] ∧ RatAt K H a q ∧ Q (.int q.num) H)
  bottom : PropX P w K mg base (aR K) "bottom" (fun vs H Q _ => ∃ (a : Addr) (q : Rat), vs = [.ref a] ∧ RatAt K H a q ∧ Q (.int (q.den : Int)) H)
theorem ok_is {f : Addr} {fd : FuncData} (F : Fun K "_law_is" "_law_is" sIs f fd) (Z : IsF P w K mg base) : FnG P w K mg base CX0 3 f fd ["_law_made_here", "_law_part"] (spIs K) := by
  obtain ⟨p1, g1, fd1, P1, G1, b1⟩ := Z.top
  obtain ⟨p2, g2, fd2, P2, G2, b2⟩ := Z.bottom
  have T := Z.N.M.L.C.J.I.R.G.T
  have M := Z.D.F
  refine Fun.okG F scIs (fun vs H Q E h => ?_) (fun cdv A outer s H vs Q E gd hr h => ?_)
  · obtain ⟨a, t, q, rfl, _⟩ := h
    rfl
  · obtain ⟨a, t, q, rfl, ha, ht, sq, k⟩ := h
    have hu := hr.units
    refine ⟨_, pss_one (ps_ret (pe_and (pe_callB call_isi (by rfl) T.isi (by decide +kernel) (pa_cons (pv 0) (pa_cons (pe_glob (v := .ref (aR K)) rfl T.gR rfl) pa_nil)))
      (pe_one (pe_cmpR op_eq (pe_callB (call_reprD Z.S gd hu) (by rfl) M.repr (by decide +kernel) (pa_cons (pe_lst (pa_cons (pe_prop (pv 0) T.cl P1 G1 hr b1 .nil pass0 rfl) (pa_cons (pe_prop (pv 0) T.cl P2 G2 hr b2 .nil pass0 rfl) pa_nil))) pa_nil))
        (pe_callB (call_reprD Z.S gd hu) (by rfl) M.repr (by decide +kernel) (pa_cons (pe_lst (pa_cons (pe_ix ix_tup (pv 1) pe_int (fun _ _ => rfl)) (pa_cons (pe_ix ix_tup (pv 1) pe_int (fun _ _ => rfl)) pa_nil))) pa_nil)) (nomark _))))), ?_⟩
    have l1 : q.num.natAbs.log2 < 1920 := Nat.lt_trans (log2_lt sq.1 (by decide)) (by decide)
    have l2 : (q.den : Int).natAbs.log2 < 1920 := Nat.lt_trans (log2_lt sq.den (by decide)) (by decide)
    obtain ⟨s1, s2, s3⟩ := shown_two l1 l2
    obtain ⟨d, e⟩ := id ha
    refine ⟨_, rfl, .ref a, .ref (aR K), .ref (aR K), _, true, rfl, .own _, ha.ty T, isi_self, true, rfl, iteT ?_⟩
    refine ⟨_, rfl, a, d, _, rfl, e, a, q, rfl, ⟨d, e⟩, _, rfl, a, d, _, rfl, e, a, q, rfl, ⟨d, e⟩, (by show 2 ≤ sizeLine; decide), fun l nl => ?_⟩
    have u1 := same_new (o := .lst [V.int q.num, .int (q.den : Int)]) nl
    refine ⟨l, _, rfl, .lst (SqL.of upd_same) (.cons (.int _) (.cons (.int _) .nil)), s1, s2, s3, ?_⟩
    refine ⟨_, rfl, t, _, _, _, rfl, rfl, SqT.of (u1 _ _ ht), rfl, _, rfl, t, _, _, _, rfl, rfl, SqT.of (u1 _ _ ht), rfl, (by show 2 ≤ sizeLine; decide), fun l2 nl2 => ?_⟩
    have u2 := same_new (o := .lst [V.int q.num, .int (q.den : Int)]) nl2
    refine ⟨l2, _, rfl, .lst (SqL.of upd_same) (.cons (.int _) (.cons (.int _) .nil)), s1, s2, s3, rfl, ?_⟩
    rw [decide_eq_true rfl]
    exact k _ (u1.trans u2)
theorem RowAt.offR {H : Hp} {p t : Addr} {d : Int} {u lo hi : Rat} (h : RowAt H t d u lo hi) (R : Rng H p) : RowAt (GL.off H p) t d u lo hi := by
  obtain ⟨a, b, c, ht, ha, hb, hc⟩ := h
  exact ⟨a, b, c, R.at_off ht (fun _ e => by cases e), ha.offR R, hb.offR R, hc.offR R⟩
/-! ### a move of the program's -/
def spMadeL (K : PySem.W.Frag) : Sp := fun vs H Q _ => ∃ (p t : Addr) (d : Int) (u lo hi : Rat), vs = [.ref p, .ref t] ∧ Rng H p ∧ RowAt H t d u lo hi ∧ 1 ≤ d ∧ rBelow hi lo = false ∧ Sz 1000 u ∧ Sz 1000 lo ∧ Sz 1000 hi ∧
  ∀ s H', Same (off H p) H' → Rng H' p → MovAt K H' s d u lo hi → Q (.ref s) H'
theorem scMade : FnScope ["_law_rng_here", "_law_row"] ["_law_rng_here", "_law_row"] (defScope sMade) := ⟨rfl, rfl, rfl, by decide +kernel, rfl, by decide +kernel, by decide +kernel⟩
theorem ok_made {f : Addr} {fd : FuncData} (F : Fun K "_law_made" "_law_made" sMade f fd) (N : RN P w K mg base) (rl : DefF P w K mg base "_law_real" 4 ["_law_rng_here", "_law_part"] (spReal K)) : FnOk P w K mg base CX0 8 f fd ["_law_rng_here", "_law_row"] (spMadeL K) := by
  obtain ⟨fI, fdI, MI, GI, bI⟩ := N.make
  obtain ⟨fR, fdR, GR, gR, bR, kR⟩ := rl
  have TM := N.M.T
  refine F.ok scMade (fun vs H Q E h => ?_) (fun cdv A outer s H vs Q E hr h => ?_)
  · obtain ⟨p, t, d, u, lo, hi, rfl, _⟩ := h
    rfl
  · obtain ⟨p, t, d, u, lo, hi, rfl, R, ht, d1, le, su, sl, sh, k⟩ := h
    have hr4 : Room 4 _ := hr.mono (by decide)
    refine ⟨_, pss_one (ps_ret (pe_make MI GI hr rfl TM.gM bI .nil pass0 (pa_cons (pe_ix ix_tup (pv 1) pe_int (fun _ _ => rfl))
      (pa_cons (pe_call GR hr4 rfl gR kR bR .nil pass0 (pa_cons (pv 0) (pa_cons (pe_ix ix_tup (pv 1) pe_int (fun _ _ => rfl)) pa_nil)))
      (pa_cons (pe_call GR hr4 rfl gR kR bR .nil pass0 (pa_cons (pv 0) (pa_cons (pe_ix ix_tup (pv 1) pe_int (fun _ _ => rfl)) pa_nil)))
      (pa_cons (pe_call GR hr4 rfl gR kR bR .nil pass0 (pa_cons (pv 0) (pa_cons (pe_ix ix_tup (pv 1) pe_int (fun _ _ => rfl)) pa_nil))) pa_nil)))))), ?_⟩
    obtain ⟨a, b, c, et, ha, hb, hc⟩ := id ht
    refine ⟨_, rfl, t, _, _, _, rfl, rfl, SqT.of et, rfl, ?_⟩
    refine ⟨_, rfl, _, rfl, t, _, _, _, rfl, rfl, SqT.of et, rfl, p, a, u, rfl, R, ha, su, fun x H1 k1 R1 hx => ?_⟩
    obtain ⟨a1, b1, c1, et1, ha1, hb1, hc1⟩ := id ((ht.offR R).same k1)
    refine ⟨_, rfl, _, rfl, t, _, _, _, rfl, rfl, SqT.of et1, rfl, p, b1, lo, rfl, R1, hb1, sl, fun y H2 k2 R2 hy => ?_⟩
    have k12 := off_off k1 k2
    obtain ⟨a2, b2, c2, et2, ha2, hb2, hc2⟩ := id ((ht.offR R).same k12)
    refine ⟨_, rfl, _, rfl, t, _, _, _, rfl, rfl, SqT.of et2, rfl, p, c2, hi, rfl, R2, hc2, sh, fun z H3 k3 R3 hz => ?_⟩
    have k13 := off_off k12 k3
    intro x0 dz hx0 hd ne
    refine made_mov hx0 hd ne d1 (((hx.offR R1).same k2).offR R2 |>.same k3) ((hy.offR R2).same k3) hz (sl.mono (by decide)) (sh.mono (by decide)) le fun q H4 k4 _ hq => ?_
    exact k q H4 (fun b o e => k4 b o (k13 b o e)) (R3.same k4) hq
end
end K18
set_option maxHeartbeats 4000000
namespace K18
open PySem PySem.Spec PyProof.Rows L2 GL
section
variable {P : Program} {w : World} {K : PySem.W.Frag} {mg : Str → Option Value} {base : Heap}
/-! ### the result at a fraction, by the law -/
def spAtL (K : PySem.W.Frag) : Sp := fun vs H Q _ => ∃ (t s : Addr) (d : Int) (u lo hi z : Rat), vs = [.ref t, .ref s] ∧ RowAt H t d u lo hi ∧ PartAt H s z ∧ 1 ≤ d ∧ (∃ a b c : Nat, Sz a u ∧ Sz b z ∧ Sz c (d : Rat) ∧ a + b + c < 1000) ∧ Sz 1000 lo ∧ Sz 1000 hi ∧
  ∀ p H', Same H H' → PartAt H' p (mAt d u lo hi z) → Q (.ref p) H'
theorem scAtL : FnScope ["_law_row", "_law_part", "_law_divisor", "_law_plus", "_law_low", "_law_high", "_law_found"] ["_law_row", "_law_part"] (defScope sAtL) := ⟨rfl, rfl, rfl, by decide +kernel, rfl, by decide +kernel, by decide +kernel⟩
theorem ok_atL {f : Addr} {fd : FuncData} (F : Fun K "_law_at" "_law_at" sAtL f fd) (sm : DefF P w K mg base "_law_sum" 2 ["_law_near_here", "_law_far"] (spSum K)) (ls : DefF P w K mg base "_law_less" 1 ["_law_near_here", "_law_far"] (spLess K)) (ov : DefF P w K mg base "_law_over" 2 ["_law_near_here", "_law_far"] (spOverL K)) :
    FnOk P w K mg base CX0 3 f fd ["_law_row", "_law_part"] (spAtL K) := by
  obtain ⟨fS, fdS, GS, gS, bS, kS⟩ := sm
  obtain ⟨fL, fdL, GL, gL, bL, kL⟩ := ls
  obtain ⟨fO, fdO, GO, gO, bO, kO⟩ := ov
  refine F.ok scAtL (fun vs H Q E h => ?_) (fun cdv A outer s H vs Q E hr h => ?_)
  · obtain ⟨t, s, d, u, lo, hi, z, rfl, _⟩ := h
    rfl
  · obtain ⟨t, s', d, u, lo, hi, z, rfl, ht, hs, d1, ⟨na, nb, nc, su, sz, sd, nn⟩, sl, sh, k⟩ := h
    have hr1 : Room 1 _ := hr.mono (by decide)
    refine ⟨_, pss_cons (ps_asg (pv 0) (pg_tup (by rfl) (pgs_cons (pg_name (i := 2) scAtL.nd rfl (.inl rfl)) (pgs_cons (pg_name (i := 3) scAtL.nd rfl (.inl rfl)) (pgs_cons (pg_name (i := 4) scAtL.nd rfl (.inl rfl)) (pgs_cons (pg_name (i := 5) scAtL.nd rfl (.inl rfl)) pgs_nil))))))
      (pss_cons (ps_set (i := 6) scAtL.nd rfl (Or.inl rfl) (pe_call GO hr rfl gO kO bO .nil pass0 (pa_cons (pe_call GS hr rfl gS kS bS .nil pass0 (pa_cons (pv 1) (pa_cons (pv 3) pa_nil))) (pa_cons (pe_tup (pa_cons (pv 2) (pa_cons pe_int pa_nil))) pa_nil))))
      (pss_cons (ps_if (pt_val (pe_call GL hr1 rfl gL kL bL .nil pass0 (pa_cons (pv 6) (pa_cons (pv 4) pa_nil)))) (pss_one (ps_ret (pv 4))) pss_nil)
      (pss_one (ps_ret (pe_ifExp (pt_val (pe_call GL hr1 rfl gL kL bL .nil pass0 (pa_cons (pv 5) (pa_cons (pv 6) pa_nil)))) (pv 5) (pv 6)))))), ?_⟩
    obtain ⟨a, b, c, et, ha, hb, hc⟩ := id ht
    refine ⟨_, rfl, t, _, rfl, SqT.of et, rfl, _, _, rfl, _, _, rfl, _, _, rfl, _, _, rfl, rfl, ?_⟩
    refine ⟨_, rfl, _, rfl, s', a, z, u, rfl, hs, ha, sz.mono (by omega), su.mono (by omega), fun p1 H1 k1 n1 h1 => ?_⟩
    refine ⟨_, rfl, (by show 2 ≤ sizeLine; decide), fun p2 n2 => ?_⟩
    have u2 := same_new (o := .tup [V.int d, .int 1]) n2
    have sf : Sz 1000 (mFree d u z) := (mFree_sz2 d1 su sz sd).mono (by omega)
    refine ⟨p1, p2, rAdd z u, (d : Rat), rfl, h1.same u2, upd_same, (by rw [Rat.num_intCast]; omega), (rAdd_sz2 sz su).mono (by omega), sd.mono (by omega), fun p3 H3 k3 n3 h3 => ?_⟩
    have k13 := k1.trans (u2.trans k3)
    refine ⟨_, rfl, _, rfl, p3, b, mFree d u z, lo, rfl, h3, hb.same k13, sf, sl, _, rfl, ?_⟩
    unfold mAt at k
    cases hA : rBelow (mFree d u z) lo with
    | true =>
      rw [hA, if_pos rfl] at k
      exact iteT ⟨_, rfl, k b H3 k13 (hb.same k13)⟩
    | false =>
      rw [hA, if_neg (by decide)] at k
      refine iteF ⟨_, rfl, _, rfl, c, p3, hi, mFree d u z, rfl, hc.same k13, h3, sh, sf, _, rfl, ?_⟩
      cases hB : rBelow hi (mFree d u z) with
      | true =>
        rw [hB, if_pos rfl] at k
        exact iteT ⟨_, rfl, k c H3 k13 (hc.same k13)⟩
      | false =>
        rw [hB, if_neg (by decide)] at k
        exact iteF ⟨_, rfl, k p3 H3 k13 h3⟩
/-! ### a Move shows a row -/
def spIsMove (K : PySem.W.Frag) : Sp := fun vs H Q _ => ∃ (s t : Addr) (d : Int) (u lo hi : Rat), vs = [.ref s, .ref t] ∧ MovAt K H s d u lo hi ∧ RowAt H t d u lo hi ∧ Sz 1900 u ∧ Sz 1900 lo ∧ Sz 1900 hi ∧ Sz 1000 (d : Rat) ∧ ∀ H', Same H H' → Q (.bl true) H'
theorem scIsMove : FnScope ["_law_made_here", "_law_row"] ["_law_made_here", "_law_row"] (defScope sIsMove) := ⟨rfl, rfl, rfl, by decide +kernel, rfl, by decide +kernel, by decide +kernel⟩
structure MvF (P : Program) (w : World) (K : PySem.W.Frag) (mg : Str → Option Value) (base : Heap) : Prop where
  Z : IsF P w K mg base
  is : DefG P w K mg base "_law_is" 3 ["_law_made_here", "_law_part"] (spIs K)
  gDiv : PropX P w K mg base (aM K) "divisor" (fun vs H Q _ => ∃ (s : Addr) (d : Int) (u lo hi : Rat), vs = [.ref s] ∧ MovAt K H s d u lo hi ∧ Q (.int d) H)
  gPlus : PropX P w K mg base (aM K) "plus" (spMGet K fun u _ _ => u)
  gLow : PropX P w K mg base (aM K) "low" (spMGet K fun _ lo _ => lo)
  gHigh : PropX P w K mg base (aM K) "high" (spMGet K fun _ _ hi => hi)
theorem ok_isMove {f : Addr} {fd : FuncData} (F : Fun K "_law_is_move" "_law_is_move" sIsMove f fd) (Y : MvF P w K mg base) : FnG P w K mg base CX0 4 f fd ["_law_made_here", "_law_row"] (spIsMove K) := by
  obtain ⟨fI, fdI, GI, gI, bI, kI⟩ := Y.is
  obtain ⟨p1, g1, fd1, P1, G1, b1⟩ := Y.gDiv
  obtain ⟨p2, g2, fd2, P2, G2, b2⟩ := Y.gPlus
  obtain ⟨p3, g3, fd3, P3, G3, b3⟩ := Y.gLow
  obtain ⟨p4, g4, fd4, P4, G4, b4⟩ := Y.gHigh
  have TR := Y.Z.N.M.L.C.J.I.R.G.T
  have TM := Y.Z.N.M.T
  have M := Y.Z.D.F
  refine Fun.okG F scIsMove (fun vs H Q E h => ?_) (fun cdv A outer s H vs Q E gd hr h => ?_)
  · obtain ⟨s, t, d, u, lo, hi, rfl, _⟩ := h
    rfl
  · obtain ⟨s', t, d, u, lo, hi, rfl, hs, ht, su, sl, sh, sd, k⟩ := h
    have hr2 : Room 2 _ := hr.mono (by decide)
    refine ⟨_, pss_cons (ps_if (PW.pt (pw_or (pt_not (pt_val (pe_callB call_isi (by rfl) TR.isi (by decide +kernel) (pa_cons (pv 0) (pa_cons (pe_glob (v := .ref (aM K)) rfl TM.gM rfl) pa_nil)))))
        (pw_or1 (pt_cmpR op_ne (pe_callB SkE.call_repr_int (by rfl) M.repr (by decide +kernel) (pa_cons (pe_prop (pv 0) TM.cl P1 G1 hr2 b1 .nil pass0 rfl) pa_nil)) (pe_callB SkE.call_repr_int (by rfl) M.repr (by decide +kernel) (pa_cons (pe_ix ix_tup (pv 1) pe_int (fun _ _ => rfl)) pa_nil)) (nomark _)))))
        (pss_one (ps_ret pe_bl)) pss_nil)
      (pss_one (ps_ret (pe_and (pe_callG GI gd hr rfl gI kI bI .nil pass0 (pa_cons (pe_prop (pv 0) TM.cl P2 G2 hr2 b2 .nil pass0 rfl) (pa_cons (pe_ix ix_tup (pv 1) pe_int (fun _ _ => rfl)) pa_nil)))
        (pe_and (pe_callG GI gd hr rfl gI kI bI .nil pass0 (pa_cons (pe_prop (pv 0) TM.cl P3 G3 hr2 b3 .nil pass0 rfl) (pa_cons (pe_ix ix_tup (pv 1) pe_int (fun _ _ => rfl)) pa_nil)))
        (pe_one (pe_callG GI gd hr rfl gI kI bI .nil pass0 (pa_cons (pe_prop (pv 0) TM.cl P4 G4 hr2 b4 .nil pass0 rfl) (pa_cons (pe_ix ix_tup (pv 1) pe_int (fun _ _ => rfl)) pa_nil)))))))), ?_⟩
    obtain ⟨d1, le, dx, pa, pb, pc, es, hpa, hpb, hpc⟩ := id hs
    obtain ⟨a, b, c, et, ha, hb, hc⟩ := id ht
    have l1 : d.natAbs.log2 < 1920 := by
      have := sd.1
      rw [Rat.num_intCast] at this
      exact Nat.lt_trans (log2_lt this (by decide)) (by decide)
    refine ⟨_, rfl, .ref s', .ref (aM K), .ref (aM K), _, true, rfl, .own _, hs.ty TM, isi_self, true, rfl, iteF ?_⟩
    refine ⟨_, rfl, s', dx, _, rfl, es, s', d, u, lo, hi, rfl, hs, d, rfl, l1, _, rfl, t, _, _, _, rfl, rfl, SqT.of et, rfl, d, rfl, l1, rfl, _, rfl, ?_⟩
    rw [decide_eq_true rfl]
    refine iteF ?_
    refine ⟨_, rfl, s', dx, _, rfl, es, s', d, u, lo, hi, rfl, hs, fun x hx => ⟨_, rfl, t, _, _, _, rfl, rfl, SqT.of et, rfl, x, a, u, rfl, hx, ha, su.mono (by decide), fun H1 k1 => ⟨true, rfl, iteT ?_⟩⟩⟩
    refine ⟨_, rfl, s', dx, _, rfl, k1 _ _ es, s', d, u, lo, hi, rfl, hs.same k1, fun x hx => ⟨_, rfl, t, _, _, _, rfl, rfl, SqT.of (k1 _ _ et), rfl, x, b, lo, rfl, hx, hb.same k1, sl.mono (by decide), fun H2 k2 => ⟨true, rfl, iteT ?_⟩⟩⟩
    have k12 := k1.trans k2
    exact ⟨_, rfl, s', dx, _, rfl, k12 _ _ es, s', d, u, lo, hi, rfl, hs.same k12, fun x hx => ⟨_, rfl, t, _, _, _, rfl, rfl, SqT.of (k12 _ _ et), rfl, x, c, hi, rfl, hx, hc.same k12, sh.mono (by decide), fun H3 k3 => k H3 (k12.trans k3)⟩⟩
end
end K18
set_option maxHeartbeats 4000000
namespace K18
open PySem PySem.Spec PyProof.Rows L2 GL
abbrev sMoveL : Stmt := tp 33
section
variable {P : Program} {w : World} {K : PySem.W.Frag} {mg : Str → Option Value} {base : Heap}
/-! ### a row drawn -/
def spMoveL (K : PySem.W.Frag) : Sp := fun vs H Q _ => ∃ p : Addr, vs = [.ref p] ∧ Rng H p ∧ ∀ t d u lo hi H', Same (off H p) H' → Rng H' p → RowAt H' t d u lo hi → 1 ≤ d → d ≤ 99 → rBelow hi lo = false → Sz 80 u → Sz 80 lo → Sz 80 hi → Q (.ref t) H'
theorem scMoveL : FnScope ["_law_rng_here", "_law_parts"] ["_law_rng_here"] (defScope sMoveL) := ⟨rfl, rfl, rfl, by decide +kernel, rfl, by decide +kernel, by decide +kernel⟩
theorem ok_moveL {f : Addr} {fd : FuncData} (F : Fun K "_law_move" "_law_move" sMoveL f fd) (D : DA P w K mg base) (ls : DefF P w K mg base "_law_less" 1 ["_law_near_here", "_law_far"] (spLess K)) (fr : DefF P w K mg base "_law_fraction" 3 ["_law_rng_here"] (spFrac K)) :
    FnOk P w K mg base CX0 4 f fd ["_law_rng_here"] (spMoveL K) := by
  obtain ⟨fD, fdD, GD, gD, bD, kD⟩ := D.draw
  obtain ⟨fC, fdC, GC, gC, bC, kC⟩ := D.choice
  obtain ⟨fL, fdL, GL, gL, bL, kL⟩ := ls
  obtain ⟨fF, fdF, GF, gF, bF, kF⟩ := fr
  refine F.ok scMoveL (fun vs H Q E h => ?_) (fun cdv A outer s H vs Q E hr h => ?_)
  · obtain ⟨p, rfl, _⟩ := h
    rfl
  · obtain ⟨p, rfl, R, k⟩ := h
    have hr1 : Room 1 _ := hr.mono (by decide)
    have hr2 : Room 2 _ := hr.mono (by decide)
    refine ⟨_, pss_cons (ps_set (i := 1) scMoveL.nd rfl (Or.inl rfl) (pe_lst (pa_cons (pe_call GF hr rfl gF kF bF .nil pass0 (pa_cons (pv 0) pa_nil)) (pa_cons (pe_call GF hr rfl gF kF bF .nil pass0 (pa_cons (pv 0) pa_nil)) pa_nil))))
      (pss_cut (ps_if (pt_val (pe_call GL hr1 rfl gL kL bL .nil pass0 (pa_cons (pe_ix ix_list (pv 1) pe_int (fun _ _ => rfl)) (pa_cons (pe_ix ix_list (pv 1) pe_int (fun _ _ => rfl)) pa_nil)))) (pss_one (ps_set (i := 1) scMoveL.nd rfl (Or.inl rfl) (pe_rev (pv 1) (po_some (pe_un un_neg pe_int))))) pss_nil)
      (pss_cut (ps_if (pt_cmpR op_eq (pe_call GD hr1 rfl gD kD bD .nil pass0 (pa_cons (pv 0) (pa_cons pe_int pa_nil))) pe_int (nomark _)) (pss_one (ps_asg (pe_ix ix_list (pv 1) pe_int (fun _ _ => rfl)) (pg_sub (pv 1) pe_int set_list))) pss_nil)
      (pss_one (ps_ret (pe_tup (pa_cons (pe_call GC hr2 rfl gC kC bC .nil pass0 (pa_cons (pv 0) (pa_cons (pe_lst (pa_cons pe_int (pa_cons pe_int (pa_cons pe_int (pa_cons pe_int (pa_cons pe_int (pa_cons pe_int (pa_cons (pe_op op_add pe_int (pe_call GD hr1 rfl gD kD bD .nil pass0 (pa_cons (pv 0) (pa_cons pe_int pa_nil)))) pa_nil)))))))) pa_nil)))
        (pa_cons (pe_call GF hr rfl gF kF bF .nil pass0 (pa_cons (pv 0) pa_nil)) (pa_cons (pe_ix ix_list (pv 1) pe_int (fun _ _ => rfl)) (pa_cons (pe_ix ix_list (pv 1) pe_int (fun _ _ => rfl)) pa_nil))))))))), ?_⟩
    refine ⟨_, rfl, p, rfl, R, fun t1 q1 H1 k1 R1 h1 s1 => ⟨_, rfl, p, rfl, R1, fun t2 q2 H2 k2 R2 h2 s2 => ⟨(by show 2 ≤ sizeLine; decide), fun l nl => ?_⟩⟩⟩
    have k12 := off_off k1 k2
    have h1' : PartAt H2 t1 q1 := k2 _ _ (R1.at_off h1 fun _ e => by cases e)
    have u2 := same_new (o := .lst [V.ref t1, .ref t2]) nl
    obtain ⟨x0, y0, ep, _⟩ := id R2
    have lp : l ≠ p := (ne_of_none ep nl).symm
    have R3 := R2.same u2
    -- the two in their sequence
    refine ⟨fun z H' => ∃ (l a b : Addr) (q r : Rat), z = [some (.ref p), some (.ref l)] ∧ Same (off H p) H' ∧ Rng H' p ∧ l ≠ p ∧ off H p l = none ∧ H' l = some (.lst [.ref a, .ref b]) ∧ PartAt H' a q ∧ PartAt H' b r ∧ Sz 80 q ∧ Sz 80 r ∧ rBelow r q = false, ?_, ?_⟩
    · have hn : off H p l = none := by
        cases e : off H p l with
        | none => rfl
        | some o =>
          have z := k12 _ _ e
          rw [nl] at z
          cases z
      have e1 := u2 _ _ h1'
      have e2 := u2 _ _ h2
      have k13 : Same (off H p) (upd H2 l (.lst [V.ref t1, .ref t2])) := fun b o e => u2 b o (k12 b o e)
      have el : upd H2 l (.lst [V.ref t1, .ref t2]) l = some (.lst [V.ref t1, .ref t2]) := upd_same
      generalize upd H2 l (.lst [V.ref t1, .ref t2]) = H3 at *
      refine ⟨_, rfl, l, _, _, .ref t2, rfl, rfl, SqL.of el, rfl, _, rfl, l, _, _, .ref t1, rfl, rfl, SqL.of el, rfl, t2, t1, q2, q1, rfl, e2, e1, s2.mono (by decide), s1.mono (by decide), _, rfl, ?_⟩
      cases hB : rBelow q2 q1 with
      | false => exact iteF ⟨l, t1, t2, q1, q2, rfl, k13, R3, lp, hn, el, e1, e2, s1, s2, hB⟩
      | true =>
        refine iteT ⟨_, rfl, _, rfl, _, rfl, rfl, l, _, rfl, SqL.of el, fun l2 nl2 => ?_⟩
        have u4 := same_new (o := .lst [V.ref t1, .ref t2].reverse) nl2
        have lp2 : l2 ≠ p := by
          obtain ⟨x, y, e, _⟩ := id R3
          exact (ne_of_none e nl2).symm
        have hn2 : off H p l2 = none := by
          cases e : off H p l2 with
          | none => rfl
          | some o =>
            have z := k13 _ _ e
            rw [nl2] at z
            cases z
        exact ⟨l2, t2, t1, q2, q1, rfl, fun b o e => u4 b o (k13 b o e), R3.same u4, lp2, hn2, upd_same, u4 _ _ e2, u4 _ _ e1, s2, s1, rBelow_not.mpr (Rat.le_of_lt (rBelow_iff.mp hB))⟩
    · rintro z' H' ⟨l, a, b, q, r, rfl, k3, R3, lp, hn, el, ha, hb, sq, sr, le⟩
      refine ⟨fun z H' => ∃ (l a b : Addr) (q r : Rat), z = [some (.ref p), some (.ref l)] ∧ Same (off H p) H' ∧ Rng H' p ∧ l ≠ p ∧ H' l = some (.lst [.ref a, .ref b]) ∧ PartAt H' a q ∧ PartAt H' b r ∧ Sz 80 q ∧ Sz 80 r ∧ rBelow r q = false, ?_, ?_⟩
      · refine ⟨_, rfl, p, 6, rfl, R3, by decide, by decide, fun d H4 d0 d1 k4 R4 => ⟨rfl, _, rfl, ?_⟩⟩
        have o4 := off_off k3 (off_kp k4)
        have el4 := k4 _ _ el lp
        have ha4 := k4 _ _ ha (R3.ne ha)
        have hb4 := k4 _ _ hb (R3.ne hb)
        refine ite2 (fun c => ?_) (fun c => ?_)
        · refine ⟨_, rfl, l, _, _, .ref a, rfl, rfl, SqL.of el4, rfl, _, rfl, l, _, _, 1, rfl, rfl, el4, rfl, ?_⟩
          obtain ⟨x, y, e, z⟩ := id R4
          have na : a ≠ l := fun w => by
            rw [w, el4] at ha4
            cases ha4
          refine ⟨l, a, a, q, q, rfl, fun b' o e' => ?_, ⟨x, y, by rw [upd_ne lp.symm]; exact e, z⟩, lp, upd_same, ?_, ?_, sq, sq, rBelow_not.mpr Rat.le_refl⟩
          · rw [upd_ne (ne_of_none e' hn)]
            exact o4 _ _ e'
          · show upd _ _ _ _ = _
            rw [upd_ne na]
            exact ha4
          · show upd _ _ _ _ = _
            rw [upd_ne na]
            exact ha4
        · exact ⟨l, a, b, q, r, rfl, o4, R4, lp, el4, ha4, hb4, sq, sr, le⟩
      · rintro z' H' ⟨l, a, b, q, r, rfl, k3, R3, lp, el, ha, hb, sq, sr, le⟩
        refine ⟨_, rfl, _, rfl, p, 99, rfl, R3, by decide, by decide, fun e H5 e0 e1 k5 R5 => ⟨_, _, rfl, rfl, (by show 7 ≤ sizeLine; decide), fun l2 nl2 => ?_⟩⟩
        have o5 := off_off k3 (off_kp k5)
        have el5 := k5 _ _ el lp
        have ha5 : PartAt H5 a q := k5 _ _ ha (R3.ne ha)
        have hb5 : PartAt H5 b r := k5 _ _ hb (R3.ne hb)
        have u6 := same_new (o := .lst [V.int 1, .int 1, .int 2, .int 2, .int 3, .int 9, .int (1 + e)]) nl2
        have lp2 : l2 ≠ p := by
          obtain ⟨x, y, e, _⟩ := id R5
          exact (ne_of_none e nl2).symm
        refine ⟨p, l2, _, rfl, R5.same u6, upd_same, lp2, (by show 0 < 7; decide), (by show 7 < 1000; decide), fun v H6 hv k6 R6 => ?_⟩
        obtain ⟨d, rfl, d1, d2⟩ : ∃ d : Int, v = .int d ∧ 1 ≤ d ∧ d ≤ 99 := by
          simp only [List.mem_cons, List.not_mem_nil, or_false] at hv
          rcases hv with rfl | rfl | rfl | rfl | rfl | rfl | rfl
          · exact ⟨_, rfl, by decide, by decide⟩
          · exact ⟨_, rfl, by decide, by decide⟩
          · exact ⟨_, rfl, by decide, by decide⟩
          · exact ⟨_, rfl, by decide, by decide⟩
          · exact ⟨_, rfl, by decide, by decide⟩
          · exact ⟨_, rfl, by decide, by decide⟩
          · exact ⟨_, rfl, by omega, by omega⟩
        have w6 : Same (off H5 p) H6 := fun b o e => k6 b o (u6 b o (off_some e).2) (off_some e).1
        have o6 := off_off o5 w6
        have el6 := w6 l _ (by rw [off_ne lp]; exact el5)
        have ha6 := (ha5.offR R5).same w6
        have hb6 := (hb5.offR R5).same w6
        refine ⟨_, rfl, p, rfl, R6, fun t3 u H7 k7 R7 h7 s7 => ?_⟩
        have o7 := off_off o6 k7
        have el7 := k7 l _ (by rw [off_ne lp]; exact el6)
        have ha7 := (ha6.offR R6).same k7
        have hb7 := (hb6.offR R6).same k7
        refine ⟨_, rfl, l, _, _, .ref a, rfl, rfl, SqL.of el7, rfl, _, rfl, l, _, _, .ref b, rfl, rfl, SqL.of el7, rfl, (by show 4 ≤ sizeLine; decide), fun t nt => ?_⟩
        have u8 := same_new (o := .tup [V.int d, .ref t3, .ref a, .ref b]) nt
        exact k t d u q r _ (fun b o e => u8 b o (o7 b o e)) (R7.same u8) ⟨t3, a, b, upd_same, u8 _ _ h7, u8 _ _ ha7, u8 _ _ hb7⟩ d1 d2 le s7 sq sr
end
end K18
set_option maxHeartbeats 4000000
namespace K18
open PySem PySem.Spec PyProof.Rows L2 GL
abbrev sNear : Stmt := tp 37
/-- fractions, each of at most so many bits -/
def PartsAt (H : Hp) (n : Nat) (xs : List V) : Prop := ∀ v ∈ xs, ∃ a q, v = .ref a ∧ PartAt H a q ∧ Sz n q
theorem PartsAt.same {H H' : Hp} {n : Nat} {xs : List V} (h : PartsAt H n xs) (k : Same H H') : PartsAt H' n xs := fun v hv => by
  obtain ⟨a, q, e, hq, s⟩ := h v hv
  exact ⟨a, q, e, hq.same k, s⟩
theorem PartsAt.offR {H : Hp} {p : Addr} {n : Nat} {xs : List V} (h : PartsAt H n xs) (R : Rng H p) : PartsAt (GL.off H p) n xs := fun v hv => by
  obtain ⟨a, q, e, hq, s⟩ := h v hv
  exact ⟨a, q, e, hq.offR R, s⟩
def r12 : Rat := ⟨1, 12, by decide, by decide⟩
def rm7 : Rat := ⟨-1, 7, by decide, by decide⟩
theorem Rng.ne_new {H : Hp} {p l : Addr} (R : Rng H p) (n : H l = none) : l ≠ p := by
  obtain ⟨x, y, e, _⟩ := R
  exact (ne_of_none e n).symm
section
variable {P : Program} {w : World} {K : PySem.W.Frag} {mg : Str → Option Value} {base : Heap}
/-! ### fractions near where a row changes -/
def spNear (K : PySem.W.Frag) : Sp := fun vs H Q _ => ∃ (p t : Addr) (d : Int) (u lo hi : Rat), vs = [.ref p, .ref t] ∧ Rng H p ∧ RowAt H t d u lo hi ∧ 1 ≤ d ∧ d ≤ 9801 ∧ Sz 170 u ∧ Sz 170 lo ∧ Sz 170 hi ∧
  ∀ l xs H', Same (off H p) H' → Rng H' p → l ≠ p → H' l = some (.lst xs) → xs.length = 10 → PartsAt H' 400 xs → Q (.ref l) H'
theorem scNear : FnScope ["_law_rng_here", "_law_row", "_law_divisor", "_law_plus", "_law_low", "_law_high", "_law_found", "_law_part", "_law_back"] ["_law_rng_here", "_law_row"] (defScope sNear) := ⟨rfl, rfl, rfl, by decide +kernel, rfl, by decide +kernel, by decide +kernel⟩
theorem ok_near {f : Addr} {fd : FuncData} (F : Fun K "_law_near" "_law_near" sNear f fd) (D : DA P w K mg base) (sm : DefF P w K mg base "_law_sum" 2 ["_law_near_here", "_law_far"] (spSum K)) (fr : DefF P w K mg base "_law_fraction" 3 ["_law_rng_here"] (spFrac K)) :
    FnOk P w K mg base CX0 4 f fd ["_law_rng_here", "_law_row"] (spNear K) := by
  obtain ⟨fP, fdP, GP, gP, bP, kP⟩ := D.plain
  obtain ⟨fS, fdS, GS, gS, bS, kS⟩ := sm
  obtain ⟨fF, fdF, GF, gF, bF, kF⟩ := fr
  refine F.ok scNear (fun vs H Q E h => ?_) (fun cdv A outer s H vs Q E hr h => ?_)
  · obtain ⟨p, t, d, u, lo, hi, rfl, _⟩ := h
    rfl
  · obtain ⟨p, t, d, u, lo, hi, rfl, R, ht, d1, d2, su, sl, sh, k⟩ := h
    have hr1 : Room 1 _ := hr.mono (by decide)
    have hr2 : Room 2 _ := hr.mono (by decide)
    refine ⟨_, pss_cons (ps_asg (pv 1) (pg_tup (by rfl) (pgs_cons (pg_name (i := 2) scNear.nd rfl (.inl rfl)) (pgs_cons (pg_name (i := 3) scNear.nd rfl (.inl rfl)) (pgs_cons (pg_name (i := 4) scNear.nd rfl (.inl rfl)) (pgs_cons (pg_name (i := 5) scNear.nd rfl (.inl rfl)) pgs_nil))))))
      (pss_cons (ps_set (i := 6) scNear.nd rfl (Or.inl rfl) (pe_lst (pa_cons (pe_call GF hr rfl gF kF bF .nil pass0 (pa_cons (pv 0) pa_nil)) (pa_cons (pe_call GF hr rfl gF kF bF .nil pass0 (pa_cons (pv 0) pa_nil)) (pa_cons (pv 4) (pa_cons (pv 5) pa_nil))))))
      (pss_cons (ps_for PassesOwn.never rfl (pi_list (pe_lst (pa_cons (pv 4) (pa_cons (pv 5) pa_nil)))) (pg_name (i := 7) scNear.nd rfl (Or.inl rfl))
        (pss_cons (ps_set (i := 8) scNear.nd rfl (Or.inl rfl) (pe_call GS hr2 rfl gS kS bS .nil pass0 (pa_cons (pe_call GP hr1 rfl gP kP bP .nil pass0 (pa_cons (pe_op op_mulW (pe_ix ix_tup (pv 7) pe_int (fun _ _ => rfl)) (pv 2)) (pa_cons (pe_ix ix_tup (pv 7) pe_int (fun _ _ => rfl)) pa_nil)))
            (pa_cons (pe_tup (pa_cons (pe_un un_neg (pe_ix ix_tup (pv 3) pe_int (fun _ _ => rfl))) (pa_cons (pe_ix ix_tup (pv 3) pe_int (fun _ _ => rfl)) pa_nil))) pa_nil))))
        (pss_one (ps_set (i := 6) scNear.nd rfl (Or.inl rfl) (pe_op op_cat (pv 6) (pe_lst (pa_cons (pv 8) (pa_cons (pe_call GS hr2 rfl gS kS bS .nil pass0 (pa_cons (pv 8) (pa_cons (pe_tup (pa_cons pe_int (pa_cons pe_int pa_nil))) pa_nil)))
          (pa_cons (pe_call GS hr2 rfl gS kS bS .nil pass0 (pa_cons (pv 8) (pa_cons (pe_tup (pa_cons (pe_un un_neg pe_int) (pa_cons pe_int pa_nil))) pa_nil))) pa_nil)))))))))
      (pss_one (ps_ret (pv 6))))), ?_⟩
    obtain ⟨a, b, c, et, ha, hb, hc⟩ := id ht
    refine ⟨_, rfl, t, _, rfl, SqT.of et, rfl, _, _, rfl, _, _, rfl, _, _, rfl, _, _, rfl, rfl, ?_⟩
    refine ⟨_, rfl, p, rfl, R, fun t1 q1 H1 k1 R1 h1 s1 => ⟨_, rfl, p, rfl, R1, fun t2 q2 H2 k2 R2 h2 s2 => ⟨_, rfl, _, rfl, (by show 4 ≤ sizeLine; decide), fun l nl => ?_⟩⟩⟩
    have k12 := off_off k1 k2
    have h1' : PartAt H2 t1 q1 := k2 _ _ (R1.at_off h1 fun _ e => by cases e)
    have ha2 := (ha.offR R).same k12
    have hb2 := (hb.offR R).same k12
    have hc2 := (hc.offR R).same k12
    have u3 := same_new (o := .lst [V.ref t1, .ref t2, .ref b, .ref c]) nl
    have lp := R2.ne_new nl
    have el : upd H2 l (.lst [V.ref t1, .ref t2, .ref b, .ref c]) l = some (.lst [V.ref t1, .ref t2, .ref b, .ref c]) := upd_same
    have R3 := R2.same u3
    have ps3 : PartsAt (upd H2 l (.lst [V.ref t1, .ref t2, .ref b, .ref c])) 400 [V.ref t1, .ref t2, .ref b, .ref c] := by
      intro v hv
      simp only [List.mem_cons, List.not_mem_nil, or_false] at hv
      rcases hv with rfl | rfl | rfl | rfl
      · exact ⟨t1, q1, rfl, u3 _ _ h1', s1.mono (by decide)⟩
      · exact ⟨t2, q2, rfl, u3 _ _ h2, s2.mono (by decide)⟩
      · exact ⟨b, lo, rfl, u3 _ _ hb2, sl.mono (by decide)⟩
      · exact ⟨c, hi, rfl, u3 _ _ hc2, sh.mono (by decide)⟩
    have k3 : Same (off H p) (upd H2 l (.lst [V.ref t1, .ref t2, .ref b, .ref c])) := fun x o e => u3 x o (k12 x o e)
    replace ha2 := ha2.same u3
    replace hb2 := hb2.same u3
    replace hc2 := hc2.same u3
    generalize upd H2 l (.lst [V.ref t1, .ref t2, .ref b, .ref c]) = H3 at *
    refine ⟨_, rfl, _, rfl, (by show 2 ≤ sizeLine; decide), fun l2 nl2 => ?_⟩
    have u4 := same_new (o := .lst [V.ref b, .ref c]) nl2
    have e2 : upd H3 l2 (.lst [V.ref b, .ref c]) l2 = some (.lst [V.ref b, .ref c]) := upd_same
    have lp2 := R3.ne_new nl2
    replace R3 := R3.same u4
    replace el := u4 _ _ el
    replace ps3 := ps3.same u4
    replace ha2 := ha2.same u4
    replace hb2 := hb2.same u4
    replace hc2 := hc2.same u4
    replace k3 : Same (off H p) (upd H3 l2 (.lst [V.ref b, .ref c])) := fun x o e => u4 x o (k3 x o e)
    generalize upd H3 l2 (.lst [V.ref b, .ref c]) = H4 at *
    refine ⟨l2, rfl, ⟨_, SqL.of e2⟩, ?_⟩
    refine for_list (K := K) (a := l2) (xs := [.ref b, .ref c]) (fun i z H' => Same H4 H' ∧ ∃ (lf : Addr) (xs : List V) (v7 v8 : Option V), z = [some (.ref p), some (.ref t), some (.int d), some (.ref a), some (.ref b), some (.ref c), some (.ref lf), v7, v8] ∧ lf ≠ p ∧ H' lf = some (.lst xs) ∧ xs.length = 4 + 3 * i ∧ PartsAt H' 400 xs) ?_ ?_ ?_ ?_
    · exact ⟨fun _ _ e => e, l, _, none, none, rfl, lp, el, rfl, ps3⟩
    · rintro i z H' _ ⟨k5, _⟩
      exact SqL.of (k5 _ _ e2)
    · rintro i y z H5 hy ⟨k5, lf, xs, v7, v8, rfl, nlf, elf, lx, psx⟩
      have i2 : i < 2 := by
        have := (List.getElem?_eq_some_iff.mp hy).1
        simpa using this
      obtain ⟨g, q, rfl, hg, sq⟩ : ∃ g q, y = .ref g ∧ PartAt H5 g q ∧ Sz 170 q := by
        match i, hy with
        | 0, hy => cases hy; exact ⟨b, lo, rfl, hb2.same k5, sl⟩
        | 1, hy => cases hy; exact ⟨c, hi, rfl, hc2.same k5, sh⟩
      have ha5 := ha2.same k5
      have hd7 : d.natAbs < 2 ^ 14 := by omega
      refine ⟨_, rfl, g, _, _, _, rfl, rfl, SqT.of hg, rfl, _, rfl, _, _, rfl, rfl, wide_mul (a := 170) (b := 14) sq.1 hd7 (by decide) (by decide) (by decide), _, rfl, g, _, _, _, rfl, rfl, SqT.of hg, rfl, ?_⟩
      have nd : (q.num * d).natAbs < 2 ^ 184 := by
        rw [Int.natAbs_mul]
        have := Nat.mul_lt_mul_of_lt_of_lt sq.1 hd7
        exact Nat.lt_of_lt_of_le this (by decide)
      refine ⟨_, _, rfl, den_ne q, Nat.lt_of_lt_of_le nd (Nat.pow_le_pow_right (by decide) (by decide)), Nat.lt_of_lt_of_le (by rw [Int.natAbs_natCast]; exact sq.den) (Nat.pow_le_pow_right (by decide) (by decide)), fun g1 H6 k6 n6 h6 => ?_⟩
      have s6 : Sz 184 (Rat.divInt (q.num * d) (q.den : Int)) := divInt_sz (den_ne q) nd (Nat.lt_of_lt_of_le (by rw [Int.natAbs_natCast]; exact sq.den) (Nat.pow_le_pow_right (by decide) (by decide)))
      have ha6 := ha5.same k6
      refine ⟨_, rfl, a, _, _, _, rfl, rfl, SqT.of ha6, rfl, _, rfl, _, rfl, a, _, _, _, rfl, rfl, SqT.of ha6, rfl, (by show 2 ≤ sizeLine; decide), fun g2 n7 => ?_⟩
      have u7 := same_new (o := .tup [V.int (-u.num), .int (u.den : Int)]) n7
      have h7 : PartAt (upd H6 g2 (.tup [V.int (-u.num), .int (u.den : Int)])) g2 (-u) := upd_same
      have s7 : Sz 170 (-u) := ⟨by show (-u.num).natAbs < _; rw [Int.natAbs_neg]; exact su.1, su.den⟩
      have g1' := u7 _ _ h6
      have k7 := k6.trans u7
      generalize upd H6 g2 (.tup [V.int (-u.num), .int (u.den : Int)]) = H7 at *
      refine ⟨g1, g2, _, -u, rfl, g1', h7, s6.mono (by decide), s7.mono (by decide), fun g3 H8 k8 n8 h8 => ?_⟩
      have s8 := rAdd_sz2 s6 s7
      generalize rAdd (Rat.divInt (q.num * d) (q.den : Int)) (-u) = bk at *
      have k8' := k7.trans k8
      refine ⟨_, rfl, _, rfl, _, rfl, (by show 2 ≤ sizeLine; decide), fun g4 n9 => ?_⟩
      have u9 := same_new (o := .tup [V.int 1, .int 12]) n9
      have h9 : PartAt (upd H8 g4 (.tup [V.int 1, .int 12])) g4 r12 := upd_same
      have k9 := k8'.trans u9
      have b9 := h8.same u9
      generalize upd H8 g4 (.tup [V.int 1, .int 12]) = H9 at *
      have z12 : Sz 4 r12 := ⟨by decide, by decide⟩
      refine ⟨g3, g4, bk, r12, rfl, b9, h9, s8.mono (by decide), z12.mono (by decide), fun g5 H10 k10 n10 h10 => ?_⟩
      have s10 := rAdd_sz2 s8 z12
      have b10 := b9.same k10
      refine ⟨_, rfl, _, rfl, (by show 2 ≤ sizeLine; decide), fun g6 n11 => ?_⟩
      have u11 := same_new (o := .tup [V.int (-1), .int 7]) n11
      have h11 : PartAt (upd H10 g6 (.tup [V.int (-1), .int 7])) g6 rm7 := upd_same
      have k11 := (k9.trans k10).trans u11
      have b11 := b10.same u11
      have c11 := h10.same u11
      generalize upd H10 g6 (.tup [V.int (-1), .int 7]) = H11 at *
      have z7 : Sz 4 rm7 := ⟨by decide, by decide⟩
      refine ⟨g3, g6, bk, rm7, rfl, b11, h11, s8.mono (by decide), z7.mono (by decide), fun g7 H12 k12 n12 h12 => ?_⟩
      have s12 := rAdd_sz2 s8 z7
      have b12 := b11.same k12
      have c12 := c11.same k12
      have k12' := k11.trans k12
      refine ⟨(by show 3 ≤ sizeLine; decide), fun g8 n13 => ?_⟩
      have u13 := same_new (o := .lst [V.ref g3, .ref g5, .ref g7]) n13
      have e13 : upd H12 g8 (.lst [V.ref g3, .ref g5, .ref g7]) g8 = some (.lst [V.ref g3, .ref g5, .ref g7]) := upd_same
      have k13 := k12'.trans u13
      replace b12 := b12.same u13
      replace c12 := c12.same u13
      replace h12 := h12.same u13
      generalize upd H12 g8 (.lst [V.ref g3, .ref g5, .ref g7]) = H13 at *
      refine ⟨lf, g8, _, _, rfl, rfl, k13 _ _ elf, e13, (by rw [sizeLine_eq]; show xs.length + 3 ≤ _; omega), fun g9 n14 => ?_⟩
      have u14 := same_new (o := .lst (xs ++ [V.ref g3, .ref g5, .ref g7])) n14
      have Rn := ((R3.same k5).same k13)
      refine ⟨(k5.trans k13).trans u14, g9, _, some (.ref g), some (.ref g3), rfl, Rn.ne_new n14, upd_same, ?_, ?_⟩
      · rw [List.length_append, lx]
        show 4 + 3 * i + 3 = _
        omega
      · intro v hv
        rcases List.mem_append.mp hv with hv | hv
        · exact (psx.same (k13.trans u14)) v hv
        · simp only [List.mem_cons, List.not_mem_nil, or_false] at hv
          rcases hv with rfl | rfl | rfl
          · exact ⟨g3, bk, rfl, b12.same u14, s8.mono (by decide)⟩
          · exact ⟨g5, _, rfl, c12.same u14, s10.mono (by decide)⟩
          · exact ⟨g7, _, rfl, h12.same u14, s12.mono (by decide)⟩
    · rintro z H5 ⟨k5, lf, xs, v7, v8, rfl, nlf, elf, lx, psx⟩
      exact ⟨_, rfl, k lf xs H5 (fun x o e => k5 x o (k3 x o e)) (R3.same k5) nlf elf lx psx⟩
end
end K18
set_option maxHeartbeats 4000000
namespace K18
open PySem PySem.Spec PyProof.Rows L2 GL
/-! ### forms -/
/-- two forms are equal -/
def dP (q : Rat) : PyData := .tuple [.int q.num, .int (q.den : Int)]
theorem dP_eqv (q r : Rat) : PyData.eqv (dP q) (dP r) = decide (q = r) := by
  unfold dP
  simp only [PyData.eqv, PyData.eqvAll, Bool.and_true]
  by_cases c : q = r
  · subst c
    simp
  · rw [decide_eq_false c]
    rw [Bool.and_eq_false_iff]
    by_cases a : q.num = r.num
    · refine .inr (beq_eq_false_iff_ne.mpr fun z => c (Rat.ext a ?_))
      omega
    · exact .inl (beq_eq_false_iff_ne.mpr a)
theorem dP_shaped (q : Rat) : SeqAt.shaped (dP q) = true := rfl
theorem PartAt.dp {K : PySem.W.Frag} {H : Hp} {a : Addr} {q : Rat} (h : PartAt H a q) : Dp K H (.ref a) (dP q) := .tup (SqT.of h) (.cons (.int _) (.cons (.int _) .nil))
/-! ### moves whose forms over a range are equal are alike in it -/
end K18
set_option maxHeartbeats 4000000
namespace K18
open PySem PySem.Spec PyProof.Rows L2 GL
theorem dpos {d : Int} (d1 : 1 ≤ d) : (0 : Rat) < (d : Rat) := by
  have : (0 : Int) < d := by omega
  exact_mod_cast this
theorem mFree_mul {d : Int} {u z : Rat} (d1 : 1 ≤ d) : mFree d u z * (d : Rat) = z + u := by
  rw [mFree_eq]
  exact Rat.div_mul_cancel (Rat.ne_of_gt (dpos d1))
theorem mAt_in {d : Int} {u lo hi z : Rat} (l : lo ≤ hi) : lo ≤ mAt d u lo hi z ∧ mAt d u lo hi z ≤ hi := by
  unfold mAt
  simp only [rBelow_iff]
  grind
theorem mAt_then {d e : Int} {u lo hi v l2 h2 x : Rat} (d1 : 1 ≤ d) (e1 : 1 ≤ e) (l : lo ≤ hi) (m : l2 ≤ h2) : mAt (d * e) (rAdd u (rMul v (d : Rat))) (mAt e v l2 h2 lo) (mAt e v l2 h2 hi) x = mAt e v l2 h2 (mAt d u lo hi x) := by
  have f : mFree (d * e) (rAdd u (rMul v (d : Rat))) x = mFree e v (mFree d u x) := by
    rw [mFree_eq, mFree_eq, mFree_eq, rAdd_eq, rMul_eq]
    have hd := Rat.ne_of_gt (dpos d1)
    have he := Rat.ne_of_gt (dpos e1)
    have c : ((d * e : Int) : Rat) = (d : Rat) * (e : Rat) := by exact_mod_cast Rat.intCast_mul d e
    rw [c]
    have hde : (d : Rat) * (e : Rat) ≠ 0 := by
      intro z
      rcases Rat.mul_eq_zero.mp z with z | z
      · exact hd z
      · exact he z
    grind
  have mono : ∀ {a b : Rat}, a ≤ b → mFree e v a ≤ mFree e v b := fun h => mFree_mono e1 h
  have g0 : ∀ (D : Int) (U L M X : Rat), mAt D U L M X = if mFree D U X < L then L else if M < mFree D U X then M else mFree D U X := fun D U L M X => by unfold mAt; simp only [rBelow_iff]
  rw [g0 d u lo hi x, g0 (d * e) _ (mAt e v l2 h2 lo) (mAt e v l2 h2 hi) x, f]
  generalize mFree d u x = y
  have g : ∀ t, mAt e v l2 h2 t = if mFree e v t < l2 then l2 else if h2 < mFree e v t then h2 else mFree e v t := fun t => by unfold mAt; simp only [rBelow_iff]
  have m1 : y < lo → mFree e v y ≤ mFree e v lo := fun h => mono (Rat.le_of_lt h)
  have m2 : hi < y → mFree e v hi ≤ mFree e v y := fun h => mono (Rat.le_of_lt h)
  have m3 := mono l
  have m4 : lo ≤ y → mFree e v lo ≤ mFree e v y := fun h => mono h
  have m5 : y ≤ hi → mFree e v y ≤ mFree e v hi := fun h => mono h
  split
  · split
    · rfl
    · split <;> simp only [g] at * <;> grind
  · simp only [g] at *
    grind

/-! ### a move, and how often it is done -/
structure Mv where
  d : Int
  u : Rat
  lo : Rat
  hi : Rat
abbrev Mv.at_ (m : Mv) (x : Rat) : Rat := mAt m.d m.u m.lo m.hi x
def Mv.good (m : Mv) : Prop := 1 ≤ m.d ∧ m.lo ≤ m.hi
def thn (m n : Mv) : Mv := ⟨m.d * n.d, rAdd m.u (rMul n.u (m.d : Rat)), n.at_ m.lo, n.at_ m.hi⟩
def pw (m : Mv) : Nat → Mv
  | 0 => m
  | k + 1 => thn (pw m k) m
def itr (m : Mv) : Nat → Rat → Rat
  | 0, x => x
  | k + 1, x => m.at_ (itr m k x)
theorem one_mul_le {d e : Int} (d1 : 1 ≤ d) (e1 : 1 ≤ e) : 1 ≤ d * e := by
  have := Int.mul_le_mul d1 e1 (by decide) (by omega)
  simpa using this
theorem thn_good {m n : Mv} (h : m.good) (k : n.good) : (thn m n).good := ⟨one_mul_le h.1 k.1, mAt_mono k.1 k.2 h.2⟩
theorem thn_at {m n : Mv} (h : m.good) (k : n.good) (x : Rat) : (thn m n).at_ x = n.at_ (m.at_ x) := mAt_then h.1 k.1 h.2 k.2
theorem pw_good {m : Mv} (h : m.good) : ∀ k, (pw m k).good
  | 0 => h
  | k + 1 => thn_good (pw_good h k) h
theorem pw_at {m : Mv} (h : m.good) (x : Rat) : ∀ k, (pw m k).at_ x = itr m (k + 1) x
  | 0 => rfl
  | k + 1 => by
    show (thn (pw m k) m).at_ x = _
    rw [thn_at (pw_good h k) h, pw_at h x k]
    rfl
theorem pw_lo (m : Mv) : ∀ k, (pw m k).lo = itr m k m.lo
  | 0 => rfl
  | k + 1 => by show m.at_ (pw m k).lo = _; rw [pw_lo m k]; rfl
theorem pw_hi (m : Mv) : ∀ k, (pw m k).hi = itr m k m.hi
  | 0 => rfl
  | k + 1 => by show m.at_ (pw m k).hi = _; rw [pw_hi m k]; rfl
theorem thn_assoc {a b c : Mv} (ha : a.good) (hb : b.good) (hc : c.good) : thn (thn a b) c = thn a (thn b c) := by
  have e1 := thn_at hb hc a.lo
  have e2 := thn_at hb hc a.hi
  unfold thn at *
  dsimp only at *
  rw [e1, e2]
  simp only [Mv.mk.injEq, and_true]
  refine ⟨Int.mul_assoc _ _ _, ?_⟩
  simp only [rAdd_eq, rMul_eq]
  have c1 : ((a.d * b.d : Int) : Rat) = (a.d : Rat) * (b.d : Rat) := by exact_mod_cast Rat.intCast_mul a.d b.d
  rw [c1]
  grind
/-! ### how great the numbers get -/
theorem pow_bd {d : Int} (d1 : 1 ≤ d) (d2 : d ≤ 99) : ∀ k : Nat, 1 ≤ d ^ k ∧ (d ^ k).natAbs ≤ 2 ^ (7 * k)
  | 0 => ⟨by simp, by simp⟩
  | k + 1 => by
    obtain ⟨h1, h2⟩ := pow_bd d1 d2 k
    refine ⟨?_, ?_⟩
    · rw [Int.pow_succ]
      exact one_mul_le h1 d1
    · rw [Int.pow_succ, Int.natAbs_mul, show 7 * (k + 1) = 7 * k + 7 from by omega, Nat.pow_add]
      exact Nat.mul_le_mul h2 (by omega)
theorem pw_d {m : Mv} : ∀ k, (pw m k).d = m.d ^ (k + 1)
  | 0 => by show m.d = m.d ^ (0 + 1); rw [Int.pow_succ, Int.pow_zero, Int.one_mul]
  | k + 1 => by
    show (pw m k).d * m.d = _
    rw [pw_d k, ← Int.pow_succ]
theorem pw_u {m : Mv} (d1 : 1 ≤ m.d) (d2 : m.d ≤ 99) : ∀ k, ∃ S : Int, (pw m k).u = rMul m.u (S : Rat) ∧ S.natAbs < 2 ^ (7 * (k + 1))
  | 0 => ⟨1, by show m.u = _; rw [rMul_eq]; grind, by decide⟩
  | k + 1 => by
    obtain ⟨S, e, h⟩ := pw_u d1 d2 k
    refine ⟨S + (pw m k).d, ?_, ?_⟩
    · show rAdd (pw m k).u (rMul m.u ((pw m k).d : Rat)) = _
      rw [e, rAdd_eq, rMul_eq, rMul_eq, rMul_eq]
      have c1 : ((S + (pw m k).d : Int) : Rat) = (S : Rat) + ((pw m k).d : Rat) := by exact_mod_cast Rat.intCast_add S (pw m k).d
      rw [c1]
      grind
    · rw [pw_d k]
      have b := (pow_bd d1 d2 (k + 1)).2
      have t := Int.natAbs_add_le S (m.d ^ (k + 1))
      have e2 : 2 ^ (7 * (k + 1 + 1)) = 128 * 2 ^ (7 * (k + 1)) := by rw [show 7 * (k + 1 + 1) = 7 * (k + 1) + 7 from by omega, Nat.pow_add, Nat.mul_comm]
      rw [e2]
      omega
theorem mul_den (q : Rat) : q * (q.den : Rat) = (q.num : Rat) := by
  have h := Rat.num_divInt_den q
  rw [Rat.divInt_eq_div] at h
  have n : (((q.den : Int)) : Rat) ≠ 0 := by exact_mod_cast q.den_nz
  have e := Rat.div_mul_cancel (a := (q.num : Rat)) n
  rw [h] at e
  exact_mod_cast e
def Orb (m : Mv) (x0 : Rat) (n : Nat) (x : Rat) : Prop := ∃ (c : Rat) (j : Nat) (S : Int), j ≤ n ∧ (c = m.lo ∨ c = m.hi ∨ c = x0) ∧ S.natAbs < 2 ^ (7 * j) ∧ x = (c + m.u * (S : Rat)) / ((m.d ^ j : Int) : Rat)
theorem orb0 {m : Mv} {x0 c : Rat} {n : Nat} (h : c = m.lo ∨ c = m.hi ∨ c = x0) : Orb m x0 n c := ⟨c, 0, 0, Nat.zero_le _, h, by decide, by simp; grind⟩
theorem orb_step {m : Mv} {x0 x : Rat} {n : Nat} (d1 : 1 ≤ m.d) (d2 : m.d ≤ 99) (h : Orb m x0 n x) : Orb m x0 (n + 1) (m.at_ x) := by
  unfold Mv.at_ mAt
  split
  · exact orb0 (.inl rfl)
  · split
    · exact orb0 (.inr (.inl rfl))
    · obtain ⟨c, j, S, jn, hc, hS, rfl⟩ := h
      obtain ⟨p1, p2⟩ := pow_bd d1 d2 j
      refine ⟨c, j + 1, S + m.d ^ j, by omega, hc, ?_, ?_⟩
      · have t := Int.natAbs_add_le S (m.d ^ j)
        have e2 : 2 ^ (7 * (j + 1)) = 128 * 2 ^ (7 * j) := by rw [show 7 * (j + 1) = 7 * j + 7 from by omega, Nat.pow_add, Nat.mul_comm]
        rw [e2]
        omega
      · rw [mFree_eq]
        have c1 : ((S + m.d ^ j : Int) : Rat) = (S : Rat) + ((m.d ^ j : Int) : Rat) := by exact_mod_cast Rat.intCast_add S (m.d ^ j)
        have c2 : ((m.d ^ (j + 1) : Int) : Rat) = ((m.d ^ j : Int) : Rat) * (m.d : Rat) := by
          rw [Int.pow_succ]
          exact_mod_cast Rat.intCast_mul (m.d ^ j) m.d
        rw [c1, c2]
        have h1 := Rat.ne_of_gt (dpos p1)
        have h2 := Rat.ne_of_gt (dpos d1)
        have h3 : ((m.d ^ j : Int) : Rat) * (m.d : Rat) ≠ 0 := by
          intro z
          rcases Rat.mul_eq_zero.mp z with z | z
          · exact h1 z
          · exact h2 z
        grind
theorem itr_orb {m : Mv} (d1 : 1 ≤ m.d) (d2 : m.d ≤ 99) (x : Rat) : ∀ k, Orb m x k (itr m k x)
  | 0 => orb0 (.inr (.inr rfl))
  | k + 1 => orb_step d1 d2 (itr_orb d1 d2 x k)
theorem orb_sz {m : Mv} {x0 x : Rat} {n a : Nat} (d1 : 1 ≤ m.d) (d2 : m.d ≤ 99) (su : Sz 80 m.u) (sl : Sz a m.lo) (sh : Sz a m.hi) (sx : Sz a x0) (h : Orb m x0 n x) : Sz (a + 81 + 7 * n) x := by
  obtain ⟨c, j, S, jn, hc, hS, rfl⟩ := h
  have sc : Sz a c := by rcases hc with rfl | rfl | rfl <;> assumption
  obtain ⟨p1, p2⟩ := pow_bd d1 d2 j
  have e : (c + m.u * (S : Rat)) / ((m.d ^ j : Int) : Rat) = Rat.divInt (c.num * (m.u.den : Int) + m.u.num * S * (c.den : Int)) ((c.den : Int) * (m.u.den : Int) * m.d ^ j) := by
    have h1 : c * (c.den : Rat) = (c.num : Rat) := mul_den c
    have h2 : m.u * (m.u.den : Rat) = (m.u.num : Rat) := mul_den m.u
    have n1 : (c.den : Rat) ≠ 0 := by exact_mod_cast c.den_nz
    have n2 : (m.u.den : Rat) ≠ 0 := by exact_mod_cast m.u.den_nz
    have n3 := Rat.ne_of_gt (dpos p1)
    rw [Rat.divInt_eq_div]
    push_cast
    have n4 : (c.den : Rat) * (m.u.den : Rat) * ((m.d ^ j : Int) : Rat) ≠ 0 := by
      intro z
      rcases Rat.mul_eq_zero.mp z with z | z
      · rcases Rat.mul_eq_zero.mp z with z | z
        · exact n1 z
        · exact n2 z
      · exact n3 z
    rw [← h1, ← h2]
    grind
  rw [e]
  have pj : 7 * j ≤ 7 * n := by omega
  have hp : (m.d ^ j).natAbs < 2 ^ (7 * j + 1) := by
    rw [Nat.pow_succ]
    have : 0 < 2 ^ (7 * j) := Nat.pow_pos (by decide)
    omega
  have t1 := mul_lt sc.1 su.den
  have t2 := mul_lt (mul_lt su.1 hS) sc.den
  have t3 := mul_lt (mul_lt sc.den su.den) hp
  refine divInt_sz (Int.mul_ne_zero (Int.mul_ne_zero (den_ne c) (den_ne m.u)) (by omega)) ?_ (Nat.lt_of_lt_of_le t3 (Nat.pow_le_pow_right (by decide) (by omega)))
  have q1 := Nat.lt_of_lt_of_le t1 (Nat.pow_le_pow_right (n := 2) (by decide) (show a + 80 ≤ a + 80 + 7 * n by omega))
  have q2 := Nat.lt_of_lt_of_le t2 (Nat.pow_le_pow_right (n := 2) (by decide) (show 80 + 7 * j + a ≤ a + 80 + 7 * n by omega))
  have q3 := Int.natAbs_add_le (c.num * (m.u.den : Int)) (m.u.num * S * (c.den : Int))
  rw [show a + 81 + 7 * n = (a + 80 + 7 * n) + 1 from by omega, Nat.pow_succ]
  omega
/-! ### divisor one -/
def rsd (m : Mv) (n : Int) : Mv := ⟨1, rMul m.u (n : Rat), cHeld m.lo m.hi (rAdd m.lo (rMul m.u ((n - 1 : Int) : Rat))), cHeld m.lo m.hi (rAdd m.hi (rMul m.u ((n - 1 : Int) : Rat)))⟩
theorem held_eq {lo hi x : Rat} : cHeld lo hi x = if x < lo then lo else if hi < x then hi else x := by
  unfold cHeld
  simp only [rBelow_iff]
theorem at_one {m : Mv} (d1 : m.d = 1) (x : Rat) : m.at_ x = cHeld m.lo m.hi (x + m.u) := by
  show mAt m.d m.u m.lo m.hi x = _
  rw [d1, held_eq]
  unfold mAt
  simp only [rBelow_iff, mFree_eq]
  have e : (x + m.u) / ((1 : Int) : Rat) = x + m.u := by
    have : ((1 : Int) : Rat) = 1 := rfl
    rw [this]
    grind
  rw [e]
theorem rsd_one {m : Mv} (d1 : m.d = 1) (h : m.good) : rsd m 1 = m := by
  obtain ⟨d, u, lo, hi⟩ := m
  obtain ⟨_, l⟩ := h
  dsimp only at *
  unfold rsd
  simp only [held_eq, rAdd_eq, rMul_eq, Mv.mk.injEq]
  have z : (((1 : Int) - 1 : Int) : Rat) = 0 := rfl
  have o : (((1 : Int)) : Rat) = 1 := rfl
  rw [z, o]
  refine ⟨d1.symm, by grind, by grind, by grind⟩
theorem rsd_succ {m : Mv} {n : Int} (d1 : m.d = 1) (h : m.good) (n1 : 1 ≤ n) : thn (rsd m n) m = rsd m (n + 1) := by
  obtain ⟨_, l⟩ := h
  have key : ∀ x, m.lo ≤ x → x ≤ m.hi → m.at_ (cHeld m.lo m.hi (x + m.u * ((n - 1 : Int) : Rat))) = cHeld m.lo m.hi (x + m.u * (n : Rat)) := fun x xl xh => by
    rw [at_one d1]
    simp only [held_eq]
    have c1 : (n : Rat) = ((n - 1 : Int) : Rat) + 1 := by
      have := Rat.intCast_add (n - 1) 1
      rw [Int.sub_add_cancel] at this
      exact this
    have c0 : (0 : Rat) ≤ ((n - 1 : Int) : Rat) := by
      have : (0 : Int) ≤ n - 1 := by omega
      exact_mod_cast this
    rw [c1]
    have e : m.u * (((n - 1 : Int) : Rat) + 1) = m.u * ((n - 1 : Int) : Rat) + m.u := by grind
    rw [e]
    rcases Rat.le_total (a := 0) (b := m.u) with hu | hu
    · have p := Rat.mul_nonneg hu c0
      generalize m.u * ((n - 1 : Int) : Rat) = y at *
      grind
    · have p : m.u * ((n - 1 : Int) : Rat) ≤ 0 := by
        have := Rat.mul_nonneg (a := -m.u) (b := ((n - 1 : Int) : Rat)) (by grind) c0
        grind
      generalize m.u * ((n - 1 : Int) : Rat) = y at *
      grind
  unfold thn
  show (⟨1 * m.d, rAdd (rMul m.u (n : Rat)) (rMul m.u ((1 : Int) : Rat)), m.at_ (cHeld m.lo m.hi (rAdd m.lo (rMul m.u ((n - 1 : Int) : Rat)))), m.at_ (cHeld m.lo m.hi (rAdd m.hi (rMul m.u ((n - 1 : Int) : Rat))))⟩ : Mv) = _
  unfold rsd
  simp only [rAdd_eq, rMul_eq, Mv.mk.injEq]
  rw [key m.lo Rat.le_refl l, key m.hi l Rat.le_refl, d1]
  have c2 : ((n + 1 : Int) : Rat) = (n : Rat) + 1 := by exact_mod_cast Rat.intCast_add n 1
  have c3 : ((1 : Int) : Rat) = 1 := rfl
  have c4 : (n + 1 - 1 : Int) = n := by omega
  rw [c2, c3, c4]
  exact ⟨rfl, by grind, rfl, rfl⟩
theorem pw_rsd {m : Mv} (d1 : m.d = 1) (h : m.good) : ∀ k : Nat, pw m k = rsd m ((k : Int) + 1)
  | 0 => (rsd_one d1 h).symm
  | k + 1 => by
    show thn (pw m k) m = _
    rw [pw_rsd d1 h k, rsd_succ d1 h (by omega)]
    rfl
end K18
set_option maxHeartbeats 4000000
namespace K18
open PySem PySem.Spec PyProof.Rows L2 GL
abbrev sThenL : Stmt := tp 39
abbrev sRaisedL : Stmt := tp 40
abbrev RowM (H : Hp) (t : Addr) (m : Mv) : Prop := RowAt H t m.d m.u m.lo m.hi
abbrev MovM (K : PySem.W.Frag) (H : Hp) (s : Addr) (m : Mv) : Prop := MovAt K H s m.d m.u m.lo m.hi
theorem times_eq {d : Int} {z : Rat} : Rat.divInt (z.num * d) (z.den : Int) = rMul z (d : Rat) := by
  unfold rMul
  rw [Rat.num_intCast, Rat.den_intCast]
  simp
theorem sz_nat {d : Int} {n : Nat} (h : Sz n (d : Rat)) : d.natAbs < 2 ^ n := by
  have := h.1
  rw [Rat.num_intCast] at this
  exact this
theorem nat_sz {d : Int} {n : Nat} (h : d.natAbs < 2 ^ n) (h0 : 0 < n) : Sz n (d : Rat) := ⟨by rw [Rat.num_intCast]; exact h, by rw [Rat.den_intCast]; exact Nat.one_lt_two_pow (by omega)⟩
/-- what the law's sums of moves stay within -/
structure Fits (m n : Mv) : Prop where
  at_ : ∃ a b c : Nat, Sz a n.u ∧ Sz b m.lo ∧ Sz b m.hi ∧ Sz c (n.d : Rat) ∧ a + b + c < 1000
  d1 : 1 ≤ n.d
  d : Sz 700 (m.d : Rat)
  u : Sz 900 m.u
  v : Sz 200 n.u
  e : Sz 20 (n.d : Rat)
  lo : Sz 1000 n.lo
  hi : Sz 1000 n.hi
section
variable {P : Program} {w : World} {K : PySem.W.Frag} {mg : Str → Option Value} {base : Heap}
/-! ### one row behind another, by the law -/
def spThenL (K : PySem.W.Frag) : Sp := fun vs H Q _ => ∃ (t t2 : Addr) (m n : Mv), vs = [.ref t, .ref t2] ∧ RowM H t m ∧ RowM H t2 n ∧ Fits m n ∧ ∀ p H', Same H H' → RowM H' p (thn m n) → Q (.ref p) H'
theorem scThenL : FnScope ["_law_row", "_law_further", "_law_plus"] ["_law_row", "_law_further"] (defScope sThenL) := ⟨rfl, rfl, rfl, by decide +kernel, rfl, by decide +kernel, by decide +kernel⟩
theorem ok_thenL {f : Addr} {fd : FuncData} (F : Fun K "_law_then" "_law_then" sThenL f fd) (D : DA P w K mg base) (sm : DefF P w K mg base "_law_sum" 2 ["_law_near_here", "_law_far"] (spSum K)) (at_ : DefF P w K mg base "_law_at" 3 ["_law_row", "_law_part"] (spAtL K)) : FnOk P w K mg base CX0 4 f fd ["_law_row", "_law_further"] (spThenL K) := by
  obtain ⟨fP, fdP, GP, gP, bP, kP⟩ := D.plain
  obtain ⟨fS, fdS, GS, gS, bS, kS⟩ := sm
  obtain ⟨fT, fdT, GT, gT, bT, kT⟩ := at_
  refine F.ok scThenL (fun vs H Q E h => ?_) (fun cdv A outer s H vs Q E hr h => ?_)
  · obtain ⟨t, t2, m, n, rfl, _⟩ := h
    rfl
  · obtain ⟨t, t2, m, n, rfl, ht, ht2, X, k⟩ := h
    obtain ⟨⟨na, nb, nc, sa, sb, sb2, sc, nn⟩, e1, sd, su, sv, se, sl, sh⟩ := X
    have r1 : Room 1 _ := hr.mono (by decide)
    have r2 : Room 2 _ := hr.mono (by decide)
    refine ⟨_, pss_cons (ps_set (i := 2) scThenL.nd rfl (Or.inl rfl) (pe_call GS r2 rfl gS kS bS .nil pass0 (pa_cons (pe_ix ix_tup (pv 0) pe_int (fun _ _ => rfl)) (pa_cons (pe_call GP r1 rfl gP kP bP .nil pass0 (pa_cons (pe_op op_mulW (pe_ix ix_tup (pe_ix ix_tup (pv 1) pe_int (fun _ _ => rfl)) pe_int (fun _ _ => rfl)) (pe_ix ix_tup (pv 0) pe_int (fun _ _ => rfl))) (pa_cons (pe_ix ix_tup (pe_ix ix_tup (pv 1) pe_int (fun _ _ => rfl)) pe_int (fun _ _ => rfl)) pa_nil))) pa_nil))))
      (pss_one (ps_ret (pe_tup (pa_cons (pe_op op_mulW (pe_ix ix_tup (pv 0) pe_int (fun _ _ => rfl)) (pe_ix ix_tup (pv 1) pe_int (fun _ _ => rfl))) (pa_cons (pv 2)
        (pa_cons (pe_call GT hr rfl gT kT bT .nil pass0 (pa_cons (pv 1) (pa_cons (pe_ix ix_tup (pv 0) pe_int (fun _ _ => rfl)) pa_nil))) (pa_cons (pe_call GT hr rfl gT kT bT .nil pass0 (pa_cons (pv 1) (pa_cons (pe_ix ix_tup (pv 0) pe_int (fun _ _ => rfl)) pa_nil))) pa_nil))))))), ?_⟩
    obtain ⟨a0, b0, c0, et, hu0, hl0, hh0⟩ := id ht
    obtain ⟨a1, b1, c1, et2, hu1, hl1, hh1⟩ := id ht2
    refine ⟨_, rfl, t, _, _, _, rfl, rfl, SqT.of et, rfl, _, rfl, t2, _, _, _, rfl, rfl, SqT.of et2, rfl, a1, _, _, _, rfl, rfl, SqT.of hu1, rfl, _, rfl, t, _, _, _, rfl, rfl, SqT.of et, rfl, _, _, rfl, rfl, wide_mul (a := 200) (b := 700) sv.1 (sz_nat sd) (by decide) (by decide) (by decide), _, rfl, t2, _, _, _, rfl, rfl, SqT.of et2, rfl, a1, _, _, _, rfl, rfl, SqT.of hu1, rfl, ?_⟩
    have nd : (n.u.num * m.d).natAbs < 2 ^ 900 := by
      rw [Int.natAbs_mul]
      have := Nat.mul_lt_mul_of_lt_of_lt sv.1 (sz_nat sd)
      rw [← Nat.pow_add] at this
      exact this
    refine ⟨_, _, rfl, den_ne n.u, Nat.lt_of_lt_of_le nd (Nat.pow_le_pow_right (by decide) (by decide)), Nat.lt_of_lt_of_le (by rw [Int.natAbs_natCast]; exact sv.den) (Nat.pow_le_pow_right (by decide) (by decide)), fun g1 H1 k1 n1 h1 => ?_⟩
    rw [times_eq] at h1
    refine ⟨a0, g1, m.u, rMul n.u (m.d : Rat), rfl, hu0.same k1, h1, su.mono (by decide), (rMul_sz2 sv sd).mono (by decide), fun g2 H2 k2 n2 h2 => ?_⟩
    have k12 := k1.trans k2
    refine ⟨_, rfl, t, _, _, _, rfl, rfl, SqT.of (k12 _ _ et), rfl, _, rfl, t2, _, _, _, rfl, rfl, SqT.of (k12 _ _ et2), rfl, _, _, rfl, rfl, wide_mul (a := 700) (b := 20) (sz_nat sd) (sz_nat se) (by decide) (by decide) (by decide), _, rfl, ?_⟩
    refine ⟨_, rfl, _, rfl, t, _, _, _, rfl, rfl, SqT.of (k12 _ _ et), rfl, t2, b0, n.d, n.u, n.lo, n.hi, m.lo, rfl, ht2.same k12, hl0.same k12, e1, ⟨na, nb, nc, sa, sb, sc, nn⟩, sl, sh, fun g3 H3 k3 h3 => ?_⟩
    have k13 := k12.trans k3
    refine ⟨_, rfl, _, rfl, t, _, _, _, rfl, rfl, SqT.of (k13 _ _ et), rfl, t2, c0, n.d, n.u, n.lo, n.hi, m.hi, rfl, ht2.same k13, hh0.same k13, e1, ⟨na, nb, nc, sa, sb2, sc, nn⟩, sl, sh, fun g4 H4 k4 h4 => ⟨(by show 4 ≤ sizeLine; decide), fun g5 n5 => ?_⟩⟩
    have u5 := same_new (o := .tup [V.int (m.d * n.d), .ref g2, .ref g3, .ref g4]) n5
    exact k g5 _ ((k13.trans k4).trans u5) ⟨g2, g3, g4, upd_same, ((h2.same k3).same k4).same u5, (h3.same k4).same u5, h4.same u5⟩
/-! ### a row with divisor one, done so many times, by the law -/
def spRaisedL (K : PySem.W.Frag) : Sp := fun vs H Q _ => ∃ (t : Addr) (m : Mv) (n : Int), vs = [.ref t, .int n] ∧ RowM H t m ∧ m.d = 1 ∧ Sz 80 m.u ∧ Sz 80 m.lo ∧ Sz 80 m.hi ∧ 1 ≤ n ∧ n ≤ 10 ^ 30 ∧ ∀ p H', Same H H' → RowM H' p (rsd m n) → Q (.ref p) H'
theorem scRaisedL : FnScope ["_law_row", "_law_many", "_law_plus", "_law_before", "_law_held"] ["_law_row", "_law_many"] (defScope sRaisedL) := ⟨rfl, rfl, rfl, by decide +kernel, rfl, by decide +kernel, by decide +kernel⟩
theorem ok_raisedL {f : Addr} {fd : FuncData} (F : Fun K "_law_raised" "_law_raised" sRaisedL f fd) (D : DA P w K mg base) (at_ : DefF P w K mg base "_law_at" 3 ["_law_row", "_law_part"] (spAtL K)) : FnOk P w K mg base CX0 4 f fd ["_law_row", "_law_many"] (spRaisedL K) := by
  obtain ⟨fP, fdP, GP, gP, bP, kP⟩ := D.plain
  obtain ⟨fT, fdT, GT, gT, bT, kT⟩ := at_
  refine F.ok scRaisedL (fun vs H Q E h => ?_) (fun cdv A outer s H vs Q E hr h => ?_)
  · obtain ⟨t, m, n, rfl, _⟩ := h
    rfl
  · obtain ⟨t, m, n, rfl, ht, d1, su, sl, sh, n1, n2, k⟩ := h
    have r1 : Room 1 _ := hr.mono (by decide)
    refine ⟨_, pss_cons (ps_set (i := 2) scRaisedL.nd rfl (Or.inl rfl) (pe_ix ix_tup (pv 0) pe_int (fun _ _ => rfl)))
      (pss_cons (ps_set (i := 3) scRaisedL.nd rfl (Or.inl rfl) (pe_call GP r1 rfl gP kP bP .nil pass0 (pa_cons (pe_op op_mulW (pe_ix ix_tup (pv 2) pe_int (fun _ _ => rfl)) (pe_op op_sub (pv 1) pe_int)) (pa_cons (pe_ix ix_tup (pv 2) pe_int (fun _ _ => rfl)) pa_nil))))
      (pss_cons (ps_set (i := 4) scRaisedL.nd rfl (Or.inl rfl) (pe_tup (pa_cons pe_int (pa_cons (pv 3) (pa_cons (pe_ix ix_tup (pv 0) pe_int (fun _ _ => rfl)) (pa_cons (pe_ix ix_tup (pv 0) pe_int (fun _ _ => rfl)) pa_nil))))))
      (pss_one (ps_ret (pe_tup (pa_cons pe_int (pa_cons (pe_call GP r1 rfl gP kP bP .nil pass0 (pa_cons (pe_op op_mulW (pe_ix ix_tup (pv 2) pe_int (fun _ _ => rfl)) (pv 1)) (pa_cons (pe_ix ix_tup (pv 2) pe_int (fun _ _ => rfl)) pa_nil)))
        (pa_cons (pe_call GT hr rfl gT kT bT .nil pass0 (pa_cons (pv 4) (pa_cons (pe_ix ix_tup (pv 0) pe_int (fun _ _ => rfl)) pa_nil))) (pa_cons (pe_call GT hr rfl gT kT bT .nil pass0 (pa_cons (pv 4) (pa_cons (pe_ix ix_tup (pv 0) pe_int (fun _ _ => rfl)) pa_nil))) pa_nil))))))))), ?_⟩
    obtain ⟨a0, b0, c0, et, hu0, hl0, hh0⟩ := id ht
    have bn : n.natAbs < 2 ^ 100 := by
      have e : (2 : Nat) ^ 100 = 1267650600228229401496703205376 := by decide
      have e2 : (10 : Int) ^ 30 = 1000000000000000000000000000000 := by decide
      omega
    have bn1 : (n - 1).natAbs < 2 ^ 100 := by omega
    have nd : ∀ {i : Int}, i.natAbs < 2 ^ 100 → (m.u.num * i).natAbs < 2 ^ 4000 := fun {i} hi => by
      rw [Int.natAbs_mul]
      have := Nat.mul_lt_mul_of_lt_of_lt su.1 hi
      rw [← Nat.pow_add] at this
      exact Nat.lt_of_lt_of_le this (Nat.pow_le_pow_right (by decide) (by decide))
    have dd : ((m.u.den : Int)).natAbs < 2 ^ 4000 := Nat.lt_of_lt_of_le (by rw [Int.natAbs_natCast]; exact su.den) (Nat.pow_le_pow_right (by decide) (by decide))
    refine ⟨_, rfl, t, _, _, _, rfl, rfl, SqT.of et, rfl, ?_⟩
    refine ⟨_, rfl, a0, _, _, _, rfl, rfl, SqT.of hu0, rfl, _, rfl, _, _, rfl, rfl, _, _, rfl, rfl, wide_mul (a := 80) (b := 100) su.1 bn1 (by decide) (by decide) (by decide), _, rfl, a0, _, _, _, rfl, rfl, SqT.of hu0, rfl, ?_⟩
    refine ⟨_, _, rfl, den_ne m.u, nd bn1, dd, fun g1 H1 k1 _ h1 => ?_⟩
    rw [times_eq] at h1
    refine ⟨_, rfl, _, rfl, t, _, _, _, rfl, rfl, SqT.of (k1 _ _ et), rfl, _, rfl, t, _, _, _, rfl, rfl, SqT.of (k1 _ _ et), rfl, (by show 4 ≤ sizeLine; decide), fun g2 n2 => ?_⟩
    have u2 := same_new (o := .tup [V.int 1, .ref g1, .ref b0, .ref c0]) n2
    have k02 := k1.trans u2
    have hw : RowAt (upd H1 g2 (.tup [V.int 1, .ref g1, .ref b0, .ref c0])) g2 1 (rMul m.u ((n - 1 : Int) : Rat)) m.lo m.hi := ⟨g1, b0, c0, upd_same, u2 _ _ h1, hl0.same k02, hh0.same k02⟩
    generalize upd H1 g2 (.tup [V.int 1, .ref g1, .ref b0, .ref c0]) = H2 at *
    refine ⟨_, rfl, a0, _, _, _, rfl, rfl, SqT.of (hu0.same k02), rfl, _, rfl, _, _, rfl, rfl, wide_mul (a := 80) (b := 100) su.1 bn (by decide) (by decide) (by decide), _, rfl, a0, _, _, _, rfl, rfl, SqT.of (hu0.same k02), rfl, ?_⟩
    refine ⟨_, _, rfl, den_ne m.u, nd bn, dd, fun g3 H3 k3 _ h3 => ?_⟩
    rw [times_eq] at h3
    have k03 := k02.trans k3
    have sb : Sz 180 (rMul m.u ((n - 1 : Int) : Rat)) := rMul_sz2 su (nat_sz bn1 (by decide))
    have s1 : Sz 7 ((1 : Int) : Rat) := ⟨by decide, by decide⟩
    refine ⟨_, rfl, _, rfl, t, _, _, _, rfl, rfl, SqT.of (k03 _ _ et), rfl, g2, b0, 1, _, m.lo, m.hi, m.lo, rfl, hw.same k3, hl0.same k03, by decide, ⟨180, 80, 7, sb, sl, s1, by decide⟩, sl.mono (by decide), sh.mono (by decide), fun g4 H4 k4 h4 => ?_⟩
    have k04 := k03.trans k4
    refine ⟨_, rfl, _, rfl, t, _, _, _, rfl, rfl, SqT.of (k04 _ _ et), rfl, g2, c0, 1, _, m.lo, m.hi, m.hi, rfl, (hw.same k3).same k4, hh0.same k04, by decide, ⟨180, 80, 7, sb, sh, s1, by decide⟩, sl.mono (by decide), sh.mono (by decide), fun g5 H5 k5 h5 => ⟨(by show 4 ≤ sizeLine; decide), fun g6 n6 => ?_⟩⟩
    have u6 := same_new (o := .tup [V.int 1, .ref g3, .ref g4, .ref g5]) n6
    have one : ∀ x, mAt 1 (rMul m.u ((n - 1 : Int) : Rat)) m.lo m.hi x = cHeld m.lo m.hi (rAdd x (rMul m.u ((n - 1 : Int) : Rat))) := fun x => by
      rw [rAdd_eq]
      exact at_one (m := ⟨1, rMul m.u ((n - 1 : Int) : Rat), m.lo, m.hi⟩) rfl x
    rw [one] at h4 h5
    exact k g6 _ ((k04.trans k5).trans u6) ⟨g3, g4, g5, upd_same, u6 _ _ (k5 _ _ (k4 _ _ h3)), (h4.same k5).same u6, h5.same u6⟩
end
end K18
set_option maxHeartbeats 4000000
namespace K18
open PySem PySem.Spec PyProof.Rows L2 GL
theorem cHeld_le {lo hi z : Rat} (l : lo ≤ hi) : lo ≤ cHeld lo hi z ∧ cHeld lo hi z ≤ hi := by
  unfold cHeld
  simp only [rBelow_iff]
  by_cases a : z < lo
  · rw [if_pos a]
    exact ⟨Rat.le_refl, l⟩
  · rw [if_neg a]
    by_cases b : hi < z
    · rw [if_pos b]
      exact ⟨l, Rat.le_refl⟩
    · rw [if_neg b]
      exact ⟨Rat.not_lt.mp a, Rat.not_lt.mp b⟩
theorem cHeld_mono {lo hi z y : Rat} (l : lo ≤ hi) (h : z ≤ y) : cHeld lo hi z ≤ cHeld lo hi y := by
  have b1 := cHeld_le (z := z) l
  have b2 := cHeld_le (z := y) l
  by_cases a : z < lo
  · have e1 : cHeld lo hi z = lo := by
      unfold cHeld
      simp only [rBelow_iff]
      rw [if_pos a]
    rw [e1]
    exact b2.1
  · by_cases b : hi < y
    · have a2 : ¬ y < lo := fun c => Rat.not_lt.mpr l (Std.lt_trans b c)
      have e2 : cHeld lo hi y = hi := by
        unfold cHeld
        simp only [rBelow_iff]
        rw [if_neg a2, if_pos b]
      rw [e2]
      exact b1.2
    · have a2 : ¬ y < lo := fun c => a (Std.lt_of_le_of_lt h c)
      have b3 : ¬ hi < z := fun c => b (Std.lt_of_lt_of_le c h)
      unfold cHeld
      simp only [rBelow_iff]
      rw [if_neg a, if_neg b3, if_neg a2, if_neg b]
      exact h
theorem cHeld_sz {lo hi z : Rat} {n : Nat} (a : Sz n lo) (b : Sz n hi) (c : Sz n z) : Sz n (cHeld lo hi z) := by
  unfold cHeld
  split
  · exact a
  · split
    · exact b
    · exact c
/-- what done calls -/
structure RD (P : Program) (w : World) (K : PySem.W.Frag) (mg : Str → Option Value) (base : Heap) : Prop where
  N : RN P w K mg base
  held : MetX P w K mg base (aM K) "_held" 6 ["self", "ratio"] (spHeld K)
section
variable {P : Program} {w : World} {K : PySem.W.Frag} {mg : Str → Option Value} {base : Heap}
def spRaised (K : PySem.W.Frag) : Sp := fun vs H Q _ => ∃ (s : Addr) (d n : Int) (u lo hi : Rat), vs = [.ref s, .int n] ∧ MovAt K H s d u lo hi ∧ 1 ≤ n ∧ Sz 1000 (n : Rat) ∧ Sz 1000 ((n - 1 : Int) : Rat) ∧ Sz 1000 u ∧ Sz 1000 lo ∧ Sz 1000 hi ∧
  ∀ p H', Same H H' → MovAt K H' p 1 (rMul u (n : Rat)) (cHeld lo hi (rAdd lo (rMul u ((n - 1 : Int) : Rat)))) (cHeld lo hi (rAdd hi (rMul u ((n - 1 : Int) : Rat)))) → Q (.ref p) H'
theorem scRaised : FnScope ["self", "times", "rest"] ["self", "times"] (defScope (sMove 18)) := ⟨rfl, rfl, rfl, by decide +kernel, rfl, by decide +kernel, by decide +kernel⟩
theorem ok_raised {f : Addr} {fd : FuncData} (F : FunD K "_raised" "Move._raised" (defArgs (sMove 18)) (defBody (sMove 18)) (defScope (sMove 18)) [] [] f fd) (U : RD P w K mg base) : FnOk P w K mg base CX0 9 f fd ["self", "times"] (spRaised K) := by
  obtain ⟨fH, fdH, mH, GH, bH⟩ := U.held
  obtain ⟨fM, oM, GM⟩ := U.N.mul
  obtain ⟨fA, oA, GA⟩ := U.N.M.L.C.add
  obtain ⟨fI, fdI, MI, GI, bI⟩ := U.N.make
  have TM := U.N.M.T
  refine F.ok scRaised (fun vs H Q E h => ?_) (fun cdv A outer s H vs Q E hr h => ?_)
  · obtain ⟨s, d, n, u, lo, hi, rfl, _⟩ := h
    rfl
  · obtain ⟨s, d, n, u, lo, hi, rfl, hs, n1, sn, sn1, su, sl, sh, k⟩ := h
    obtain ⟨d1, le, dx, pa, pb, pc, es, ha, hb, hc⟩ := id hs
    obtain ⟨da, ea⟩ := id ha
    refine ⟨_, pss_cons (ps_set (i := 2) scRaised.nd rfl (Or.inl rfl) (pe_op (op_own (.inr (.inr rfl)) oM GM (hr.mono (by decide)) pass0) (pe_fld (pv 0) rfl) (pe_op op_sub (pv 1) pe_int)))
      (pss_one (ps_ret (pe_make MI GI (hr.mono (by decide)) rfl TM.gM bI .nil pass0 (pa_cons pe_int (pa_cons (pe_op (op_own (.inr (.inr rfl)) oM GM (hr.mono (by decide)) pass0) (pe_fld (pv 0) rfl) (pv 1))
        (pa_cons (pe_meth (pv 0) TM.cl mH GH (hr.mono (by decide)) bH .nil pass0 (pa_cons (pe_op (op_own (.inl rfl) oA GA (hr.mono (by decide)) pass0) (pe_fld (pv 0) rfl) (pv 2)) pa_nil))
        (pa_cons (pe_meth (pv 0) TM.cl mH GH (hr.mono (by decide)) bH .nil pass0 (pa_cons (pe_op (op_own (.inl rfl) oA GA (hr.mono (by decide)) pass0) (pe_fld (pv 0) rfl) (pv 2)) pa_nil)) pa_nil))))))), ?_⟩
    have sr := rMul_sz2 su sn1
    have lh := rBelow_not.mp le
    refine ⟨_, rfl, s, _, dx, _, _, rfl, es, TM.cl, TM.nP, rfl, _, rfl, _, _, rfl, rfl, pa, da, _, rfl, ea, .inr ⟨_, rfl⟩, ?_⟩
    refine ⟨pa, .int (n - 1), u, ((n - 1 : Int) : Rat), rfl, ha, .inl ⟨_, rfl, rfl⟩, su.mono (by decide), sn1.mono (by decide), trivial, fun r H1 k1 hr1 => ?_⟩
    obtain ⟨dr, er⟩ := id hr1
    refine ⟨_, rfl, s, _, dx, _, _, rfl, k1 _ _ es, TM.cl, TM.nP, rfl, _, rfl, pa, da, _, rfl, k1 _ _ ea, .inr ⟨_, rfl⟩, ?_⟩
    refine ⟨pa, .int n, u, (n : Rat), rfl, ha.same k1, .inl ⟨_, rfl, rfl⟩, su.mono (by decide), sn.mono (by decide), trivial, fun m H2 k2 hm => ?_⟩
    have k12 := k1.trans k2
    obtain ⟨db, eb⟩ := id (hb.same k12)
    refine ⟨_, rfl, s, dx, _, rfl, k12 _ _ es, rfl, _, rfl, s, _, dx, _, _, rfl, k12 _ _ es, TM.cl, TM.nL, rfl, _, rfl, pb, db, _, rfl, eb, .inl ⟨r, dr, _, rfl, k2 _ _ er⟩, ?_⟩
    refine ⟨pb, .ref r, lo, _, rfl, ⟨db, eb⟩, .inr ⟨r, rfl, hr1.same k2⟩, sl.mono (by decide), sr.mono (by decide), trivial, fun x H3 k3 hx => ?_⟩
    have k13 := k12.trans k3
    have s1 : Sz 100000 (rAdd lo (rMul u ((n - 1 : Int) : Rat))) := (rAdd_sz2 sl sr).mono (by decide)
    have s2 : Sz 100000 (rAdd hi (rMul u ((n - 1 : Int) : Rat))) := (rAdd_sz2 sh sr).mono (by decide)
    refine ⟨s, x, d, u, lo, hi, _, rfl, hs.same k13, hx, s1, sl.mono (by decide), sh.mono (by decide), fun x2 H4 k4 hx2 => ?_⟩
    have k14 := k13.trans k4
    obtain ⟨dc, ec⟩ := id (hc.same k14)
    refine ⟨_, rfl, s, dx, _, rfl, k14 _ _ es, rfl, _, rfl, s, _, dx, _, _, rfl, k14 _ _ es, TM.cl, TM.nH, rfl, _, rfl, pc, dc, _, rfl, ec, .inl ⟨r, dr, _, rfl, (k2.trans (k3.trans k4)) _ _ er⟩, ?_⟩
    refine ⟨pc, .ref r, hi, _, rfl, ⟨dc, ec⟩, .inr ⟨r, rfl, hr1.same (k2.trans (k3.trans k4))⟩, sh.mono (by decide), sr.mono (by decide), trivial, fun y H5 k5 hy => ?_⟩
    have k15 := k14.trans k5
    refine ⟨s, y, d, u, lo, hi, _, rfl, hs.same k15, hy, s2, sl.mono (by decide), sh.mono (by decide), fun y2 H6 k6 hy2 => ?_⟩
    intro x0 dz hx0 hd ne
    have mono : rBelow (cHeld lo hi (rAdd hi (rMul u ((n - 1 : Int) : Rat)))) (cHeld lo hi (rAdd lo (rMul u ((n - 1 : Int) : Rat)))) = false := by
      refine rBelow_not.mpr (cHeld_mono lh ?_)
      rw [rAdd_eq, rAdd_eq]
      exact Rat.add_le_add_right.mpr lh
    exact made_mov hx0 hd ne (by decide) (.inr ⟨m, rfl, hm.same (k3.trans (k4.trans (k5.trans k6)))⟩) (.inr ⟨x2, rfl, hx2.same (k5.trans k6)⟩) (.inr ⟨y2, rfl, hy2⟩) (cHeld_sz (sl.mono (by decide)) (sh.mono (by decide)) s1) (cHeld_sz (sl.mono (by decide)) (sh.mono (by decide)) s2) mono fun p H7 k7 _ hp => k p H7 ((k15.trans k6).trans k7) hp
end
end K18
set_option maxHeartbeats 1000000
/-! repr(a), a an own instance. -/
namespace GL
open PySem PySem.Spec PyProof.Rows L2
theorem krp_call {prog : Program} {w : World} {A : Around} {E : Value → Shared → Prop} {s : Shared} {K : PySem.W.Frag} {x C f : Addr} {ox : Obj} {od : Option Obj} {Q : Value → Shared → Prop} (hu : A.in1.units < cLine) (X : K.In s.heap) (I : PySem.W.InstAt s.heap x ox C od) (hr : PySem.W.findIn K (.ref C) "__repr__" = some (some (.ref f))) (hf : PySem.W.isFn K (.ref f) = true)
    (h : wpAny (model prog w) A.in1 (call (.ref f) [.ref x]) (PySem.W.KfoBack Q) E s) : wpAny (model prog w) A (call (.builtin "repr") [.ref x]) Q E s := by
  refine Calls.call_function_entry PySem.F.kind_repr PySem.F.plain_repr PySem.F.entry_repr (PySem.F.args_repr1 _) ?_
  unfold Builtin.«repr»
  refine wpAny_bind (m := PySem.oneArg "repr" _) (wpAny_pure ?_)
  refine wpAny_bind (wpAny_cRoomFor hu ?_)
  refine wpAny_bind (m := specialOf (.ref x) _) (wpAny_bind (I.type.here ((PySem.W.looks_findIn X hr).here ?_)))
  show wpAny _ _ (if (some (Value.ref f)).isNone = true then _ else _) _ _ _
  rw [if_neg (by simp)]
  refine wpAny_bind (m := callSpecialIfBound? (.ref x) (Str.ofString "__repr__") _) (PySem.W.ifBound_K X I hr hf (wpAny_mono h (fun r s' hq => ?_) fun _ _ y => y))
  obtain ⟨m, tk, rfl, hq⟩ := hq
  refine wpAny_bind (wpAny_isInstance (typeIs_str _ _ _) isSubtype_str_str ?_)
  first
    | exact wpAny_pure ⟨_, rfl, hq⟩
    | (rw [if_pos rfl]; exact wpAny_pure ⟨_, rfl, hq⟩)
    | (simp only [if_true]; exact wpAny_pure ⟨_, rfl, hq⟩)
theorem call_reprO {X : Cx} {CX : CXT} {E : XK} {k : Nat} {sp : Sp} {C f : Addr} (B : Meth X.K C "__repr__" f) (F : FnR X.prog X.w X.K X.mg X.base CX k f sp) (hr : Room (k + 1) X.A) (hx : Passes CX X E) :
    CallR X (.builtin "repr") (fun xs H Q => ∃ a dx fs, xs = [.ref a] ∧ H a = some (.ins C dx fs) ∧ sp [.ref a] H (fun v H' => ∃ z, v = .str z ∧ Q v H') E) := by
  intro pins s σ H xs us Q I r h
  obtain ⟨a, dx, fs, rfl, ea, q⟩ := h
  cases r with
  | cons r1 r2 =>
    cases r2
    rename_i u
    cases (show u = Value.ref a from r1)
    obtain ⟨ox, od, J⟩ := inst_of I ea
    have e0 : Env0 X.prog X.w X.K X.mg X.base X.A.in1 X.stack s H := { I.env0 with frames := I.env0.frames }
    have run := F X.A.in1 X.stack s H [.ref a] [.ref a] _ E (Room.in1 hr) e0 (Paired.cons (a := V.ref a) (b := Value.ref a) rfl .nil) q
    have hu : X.A.in1.units < cLine := by
      have := (Room.in1 hr).un
      omega
    refine krp_call hu I.kIn J B.at_ B.fn (wpAny_call (codeAny_mono run fun r' s' z => ?_))
    match r', z with
    | .error er, z => exact hx pins σ H s er s' I z
    | .ok .next, z => exact False.elim z
    | .ok .brk, z => exact False.elim z
    | .ok .cont, z => exact False.elim z
    | .ok (.ret w), z =>
      obtain ⟨v, H', I', rv, y, rfl, q'⟩ := I.after z
      obtain ⟨t, rfl⟩ := (show ∃ t, w = Value.str y t from rv)
      exact ⟨y, t, rfl, V.str y, H', I', rv, q'⟩
end GL
set_option maxHeartbeats 1000000
/-! defs that neither loop nor raise: called whatever is handled. -/
namespace GL
open PySem PySem.Spec PyProof.Rows L2 L2H
structure FnC (P : Program) (w : World) (K : PySem.W.Frag) (mg : Str → Option Value) (base : Heap) (k : Nat) (f : Addr) (fd : FuncData) (ps : List Str) (sp : Sp) : Prop where
  len : ∀ vs H Q E, sp vs H Q E → vs.length = ps.length
  run : ∀ (A : Around) (outer : List Env) (s : Shared) (H : Hp) (args : Args) (us : List Value) (vs : List V) (Q : VK), RoomH k A → Env0 P w K mg base A outer s H → BindsTo s fd args (ps.zip us) → Vals vs us → sp vs H Q E0 →
    codeAny (model P w) A (.call (.ref f) args) (CR CX0 outer P w H s Q E0) s
def cxQ (P : Program) (w : World) (K : PySem.W.Frag) (mg : Str → Option Value) (base : Heap) (N : List Str) (qual : Str) (scope : Scope) (f : Addr) (cd : Value) (A : Around) (outer : List Env) (s : Shared) (H : Hp) : Cx :=
  { cxOf CX0 P w K mg base N qual scope f cd A outer s H E0 with calm := false }
/-- nothing is handled -/
def quiet (A : Around) : Around := { A with handled := none }
section
variable {P : Program} {w : World} {K : PySem.W.Frag} {mg : Str → Option Value} {base : Heap} {N ps : List Str} {q : Str} {sc : Scope} {f : Addr} {cd : Value} {A : Around} {out : List Env} {s s1 : Shared} {H : Hp}
theorem Env0.quiet (e : Env0 P w K mg base A out s H) : Env0 P w K mg base (quiet A) out s H := { e with frames := e.frames }
theorem inv_quiet {z : L2.St} {G : Hp} {pins : List (Addr × Obj)} (I : Inv (cxOf CX0 P w K mg base N q sc f cd (GL.quiet A) out s H E0) pins z G s1) : Inv (cxQ P w K mg base N q sc f cd A out s H) pins z G s1 :=
  { I with ok := { I.ok with hd := fun v => by cases v } }
theorem fnC_of {k : Nat} {nm : Str} {pa : Arguments} {bd : List Stmt} {dV kV dc pm oc ct : Value} {an od : Option Addr} {osl : Array (Option Value)} {sp : Sp} (at_ : K.lookup f = some ⟨oc, od, .func (PySem.W.fnOf nm q pa bd sc dV kV dc pm an cd ct), osl⟩) (code : PySem.W.codeIn K cd q = true) (S : FnScope N ps sc)
    (long : ∀ vs H Q E, sp vs H Q E → vs.length = ps.length)
    (inner : ∀ (A : Around) (out : List Env) (s : Shared) (H : Hp) (vs : List V) (Q : VK), RoomH k (A.deeper (envOfC q sc s.heap.objs.size f cd)) → sp vs H Q E0 → ∃ t, PSs (cxQ P w K mg base N q sc f cd A out s H) bd t ∧ t { nx := fun _ G => Q .non G, rt := Q } (L2.start N vs) H) :
    FnC P w K mg base (k + 1) f (PySem.W.fnOf nm q pa bd sc dV kV dc pm an cd ct) ps sp := by
  refine ⟨long, ?_⟩
  intro A out s H args us vs Q room e0 bnd vals hsp
  have hin := e0.mod.kin.keeps fun b o z => (e0.bs b o z).1
  refine codeAny_call_function room.depth (hin _ _ at_) rfl S.co S.gen rfl (PySem.W.codeRec_of hin code) (bnd _ _ _ _ ?_)
  refine wpAny_newFunctionEnv_cells S.kind ?_ ?_
  · rintro ⟨n, v⟩ hy
    rcases S.par n (List.of_mem_zip hy).1 with z | z
    · exact .inl z
    · exact .inr ⟨z, PySem.W.cellsFrom_some _ _ _ (.inl z)⟩
  · rintro env rfl s1 x
    refine ⟨(e0.mod.nolimit.keeps fun b o z => (e0.bs b o z).1).keeps x.toInCall.keep, codeAny_func ?_⟩
    obtain ⟨t, ok, go⟩ := inner A out s H vs Q (room.deeper _) hsp
    have J := inv_quiet (inv_start (CX := CX0) (E := E0) S (A := GL.quiet A) rfl (GL.Env0.quiet e0) (long _ _ _ _ hsp) vals x)
    refine wpAny_mono (ok.run [] s1 (L2.start N vs) H _ J go) ?_ fun _ _ z => z
    intro fl s2 z
    match fl, z with
    | .ret u, ⟨v, _, G, L, rv, z⟩ => exact ⟨v, G, L.os, L.bare, L.base, L.hok, rv, z⟩
    | .next, ⟨_, G, L, z⟩ => exact ⟨.non, G, L.os, L.bare, L.base, L.hok, rfl, z⟩
    | .brk, ⟨_, _, _, z⟩ => exact z.elim
    | .cont, ⟨_, _, _, z⟩ => exact z.elim
end
theorem call_reprQ {X : Cx} {k : Nat} {fd : FuncData} {sp : Sp} {C f : Addr} (B : Meth X.K C "__repr__" f) (F : FnC X.prog X.w X.K X.mg X.base k f fd ["self"] sp) (hb : Binds X.K fd ["self"] []) (hr : RoomH (k + 1) X.A) :
    CallR X (.builtin "repr") (fun xs H Q => ∃ a dx fs, xs = [.ref a] ∧ H a = some (.ins C dx fs) ∧ sp [.ref a] H (fun v H' => ∃ z, v = .str z ∧ Q v H') E0) := by
  intro pins s σ H xs us Q I r h
  obtain ⟨a, dx, fs, rfl, ea, q⟩ := h
  cases r with
  | cons r1 r2 =>
    cases r2
    rename_i u
    cases (show u = Value.ref a from r1)
    obtain ⟨ox, od, J⟩ := inst_of I ea
    have e0 : Env0 X.prog X.w X.K X.mg X.base X.A.in1 X.stack s H := { I.env0 with frames := I.env0.frames }
    have b := hb s [.ref a] I.kIn rfl
    rw [List.append_nil] at b
    have hr1 : RoomH k X.A.in1 := ⟨by have := hr.dp; show X.A.depth + 3 * k + 5 < _; omega, by have := hr.un; show X.A.units + 1 + 16 * k + 200 < _; omega⟩
    have run := F.run X.A.in1 X.stack s H ⟨[.ref a], []⟩ [.ref a] [.ref a] _ hr1 e0 b (Paired.cons (a := V.ref a) (b := Value.ref a) rfl .nil) q
    have hu : X.A.in1.units < cLine := by
      have := hr1.un
      omega
    refine krp_call hu I.kIn J B.at_ B.fn (wpAny_call (codeAny_mono run fun r' s' z => ?_))
    match r', z with
    | .error er, z => exact False.elim z
    | .ok .next, z => exact False.elim z
    | .ok .brk, z => exact False.elim z
    | .ok .cont, z => exact False.elim z
    | .ok (.ret w), z =>
      obtain ⟨v, H', I', rv, y, rfl, q'⟩ := I.after z
      obtain ⟨t, rfl⟩ := (show ∃ t, w = Value.str y t from rv)
      exact ⟨y, t, rfl, V.str y, H', I', rv, q'⟩
end GL
set_option maxHeartbeats 4000000
namespace K18
open PySem PySem.Spec PyProof.Rows L2 GL
abbrev sTold : Stmt := tp 38
abbrev aIM (K : PySem.W.Frag) : Addr := He.ga K "InvalidMove"
abbrev aIC (K : PySem.W.Frag) : Addr := He.ga K "InvalidCount"
abbrev aTM (K : PySem.W.Frag) : Addr := He.ga K "TooMany"
/-! ### repr of a Ratio -/
def reprQ (q : Rat) : Str := ((((Str.empty ++ "Ratio(") ++ toString q.num) ++ ", ") ++ toString (q.den : Int)) ++ ")"
section
variable {P : Program} {w : World} {K : PySem.W.Frag} {mg : Str → Option Value} {base : Heap}
def spRepr (K : PySem.W.Frag) : Sp := fun vs H Q _ => ∃ (a : Addr) (q : Rat), vs = [.ref a] ∧ RatAt K H a q ∧ Sz 900 q ∧ Q (.str (reprQ q)) H
theorem scRepr : FnScope ["self"] ["self"] (defScope (sRatio 15)) := ⟨rfl, rfl, rfl, by decide +kernel, rfl, by decide +kernel, by decide +kernel⟩
theorem ok_repr {f : Addr} {fd : FuncData} (F : FunD K "__repr__" "Ratio.__repr__" (defArgs (sRatio 15)) (defBody (sRatio 15)) (defScope (sRatio 15)) [] [] f fd) (T : RF K mg) : FnC P w K mg base 1 f fd ["self"] (spRepr K) := by
  obtain ⟨oc, od, dV, kV, doc, pm, an, cdv, ct, osl, rfl, lk, hcd, _, _⟩ := F.ex
  refine fnC_of lk hcd scRepr (fun vs H Q E h => ?_) (fun A out s H vs Q hr h => ?_)
  · obtain ⟨a, q, rfl, _⟩ := h
    rfl
  · obtain ⟨a, q, rfl, ⟨d, e⟩, sz, k⟩ := h
    refine ⟨_, pss_one (ps_ret (pe_joined (.cons pe_str (.cons (pe_fmt (pe_fld (pv 0) rfl)) (.cons pe_str (.cons (pe_fmt (pe_fld (pv 0) rfl)) (.cons pe_str .nil))))))), ?_⟩
    have l1 : q.num.natAbs.log2 < 1920 := Nat.lt_trans (log2_lt sz.1 (by decide)) (by decide)
    have l2 : (q.den : Int).natAbs.log2 < 1920 := Nat.lt_trans (log2_lt sz.den (by decide)) (by decide)
    have n1 : (Str.ofString (toString q.num)).length ≤ 1921 := by
      rw [PySem.ofString_length]
      exact int_text_length_le (by decide) l1
    have n2 : (Str.ofString (toString (q.den : Int))).length ≤ 1921 := by
      rw [PySem.ofString_length]
      exact int_text_length_le (by decide) l2
    have m0 : (Str.ofString "Ratio(").length = 6 := by decide +kernel
    have m1 : (Str.ofString ", ").length = 2 := by decide +kernel
    have m2 : (Str.ofString ")").length = 1 := by decide +kernel
    have e0 : Str.empty.length = 0 := rfl
    have line := sizeLine_eq
    refine ⟨_, rfl, by rw [strLen_append]; omega, ?_⟩
    refine ⟨_, rfl, a, _, d, _, _, rfl, e, T.cl, T.nT, rfl, .inr ⟨_, rfl, l1, ?_⟩⟩
    refine ⟨_, rfl, by rw [strLen_append, strLen_append]; omega, ?_⟩
    refine ⟨_, rfl, by rw [strLen_append, strLen_append, strLen_append]; omega, ?_⟩
    refine ⟨_, rfl, a, _, d, _, _, rfl, e, T.cl, T.nB, rfl, .inr ⟨_, rfl, l2, ?_⟩⟩
    refine ⟨_, rfl, by rw [strLen_append, strLen_append, strLen_append, strLen_append]; omega, ?_⟩
    refine ⟨_, rfl, by rw [strLen_append, strLen_append, strLen_append, strLen_append, strLen_append]; omega, ?_⟩
    exact k
end
/-! ### repr of data and of Ratios -/
def RepAt (K : PySem.W.Frag) (H : Hp) (v : V) (z : Str) : Prop := (∃ pd, Dq K H v pd ∧ pd.showable = true ∧ pd.depth ≤ 40 ∧ pd.shown.length ≤ sizeLine ∧ z = pd.shown) ∨ ∃ a q, v = .ref a ∧ RatAt K H a q ∧ Sz 900 q ∧ z = reprQ q
theorem RepAt.same {K : PySem.W.Frag} {H H' : Hp} {v : V} {z : Str} (h : RepAt K H v z) (k : Same H H') : RepAt K H' v z := by
  rcases h with ⟨pd, h, r⟩ | ⟨a, q, e, h, r⟩
  · exact .inl ⟨pd, Dq.same k h, r⟩
  · exact .inr ⟨a, q, e, h.same k, r⟩
def rRepZ (K : PySem.W.Frag) : List V → Hp → VK → Prop := fun xs H Q => ∃ (v : V) (z : Str), xs = [v] ∧ RepAt K H v z ∧ Q (.str z) H
/-- what repr of a Ratio is done by -/
def RepF (P : Program) (w : World) (K : PySem.W.Frag) (mg : Str → Option Value) (base : Heap) : Prop := ∃ f fd, Meth K (aR K) "__repr__" f ∧ FnC P w K mg base 1 f fd ["self"] (spRepr K) ∧ Binds K fd ["self"] []
theorem call_repZ {Y : Cx} (S : SysK Y.K) (R : RepF Y.prog Y.w Y.K Y.mg Y.base) (gd : Y.A.guards = some []) (hr : L2H.RoomH 2 Y.A) : CallR Y (.builtin "repr") (rRepZ Y.K) := by
  obtain ⟨f, fd, B, F, hb⟩ := R
  intro pins s z H xs us Q I r h
  obtain ⟨v, x, rfl, h, q⟩ := h
  rcases h with ⟨pd, hv, sh, dp, sz, rfl⟩ | ⟨a, y, rfl, ha, sz, rfl⟩
  · exact call_reprV S gd (by have := hr.un; omega) pins s z H [v] us Q I r ⟨v, pd, rfl, hv, sh, dp, sz, q⟩
  · obtain ⟨d, e⟩ := id ha
    exact call_reprQ B F hb hr pins s z H [.ref a] us Q I r ⟨a, d, _, rfl, e, a, y, rfl, ha, sz, _, rfl, q⟩
/-- the errors that this law hears of -/
structure EF (K : PySem.W.Frag) (mg : Str → Option Value) : Prop where
  xM : XC K (aIM K) .ve
  xC : XC K (aIC K) .ve
  xT : XC K (aTM K) .ve
  gM : mg "InvalidMove" = some (.ref (aIM K))
  gC : mg "InvalidCount" = some (.ref (aIC K))
  gT : mg "TooMany" = some (.ref (aTM K))
  nM : PySem.W.findIn K (.ref (aIM K)) "part" = some none
  nC : PySem.W.findIn K (.ref (aIC K)) "value" = some none
  nK : PySem.W.findIn K (.ref (aTM K)) "kind" = some none
  nL : PySem.W.findIn K (.ref (aTM K)) "limit" = some none
  mm : PySem.W.exmOne K (.ref (aIM K)) (.ref (aIM K)) = some true
  cm : PySem.W.exmOne K (.ref (aIC K)) (.ref (aIM K)) = some false
  cc : PySem.W.exmOne K (.ref (aIC K)) (.ref (aIC K)) = some true
  tm : PySem.W.exmOne K (.ref (aTM K)) (.ref (aIM K)) = some false
  tc : PySem.W.exmOne K (.ref (aTM K)) (.ref (aIC K)) = some false
  tt : PySem.W.exmOne K (.ref (aTM K)) (.ref (aTM K)) = some true
/-- what goes out: an error of the class at C with these fields; all stands -/
def outF (C : Addr) (fs : List (Str × V)) (H : Hp) (E : XK) : Prop := ∀ d H2, Same H H2 → H d = none → H2 d = some (.xd fs) → E (.ref C) (some d) H2
theorem none_of {H H1 : Hp} {p : Addr} (k : Same H H1) (n : H1 p = none) : H p = none := by
  cases e : H p with
  | none => rfl
  | some o =>
    have z := k _ _ e
    rw [n] at z
    cases z
theorem outF.same {C : Addr} {fs : List (Str × V)} {H H' : Hp} {E : XK} (h : outF C fs H E) (k : Same H H') : outF C fs H' E := fun d H2 k2 n e => h d H2 (k.trans k2) (none_of k n) e
abbrev fMany : List (Str × V) := [("limit", .int 100), ("kind", .str "times")]
/-- what is heard of a call that ends so -/
def TT13 (K : PySem.W.Frag) : (XK → Hp → VK → Prop) → Hp → VK → Prop := fun tl H Q =>
  (∃ x : Str, (∀ E H1 R, Same H H1 → outF (aIM K) [("part", .str x)] H1 E → tl E H1 R) ∧ ∀ r H3, Same H H3 → H3 r = some (.lst [.str "move", .str x]) → Q (.ref r) H3) ∨
  (∃ v z, RepAt K H v z ∧ (∀ E H1 R, Same H H1 → outF (aIC K) [("value", v)] H1 E → tl E H1 R) ∧ ∀ r H3, Same H H3 → H3 r = some (.lst [.str "count", .str z]) → Q (.ref r) H3) ∨
  ((∀ E H1 R, Same H H1 → outF (aTM K) fMany H1 E → tl E H1 R) ∧ ∀ r H3, Same H H3 → H3 r = some (.lst [.str "many", .str "times", .int 100]) → Q (.ref r) H3)
section
variable {mg : Str → Option Value}
theorem scTold : FnScope ["_law_call", "_law_heard", "e"] ["_law_call"] (defScope sTold) := ⟨rfl, rfl, rfl, by decide +kernel, rfl, by decide +kernel, by decide +kernel⟩
theorem told13 {X : Cx} {g : Addr} {cdg : Value} {q : Str} {k : Nat} (hm : X.mg = mg) (Z : EF X.K mg) (S : SysK X.K) (RR : RepF X.prog X.w X.K X.mg X.base) (rp : mg "repr" = none) (gd : X.A.guards = some []) :
    Gives X ["_law_call", "_law_heard", "e"] "_law_told" (defScope sTold) g cdg (defBody sTold) "_law_call" q (k + 2) (TT13 X.K) := by
  subst hm
  intro f c' s H Q tl room act hc h
  have r2 : Room 2 (X.A.deeper (envOfC "_law_told" (defScope sTold) s.heap.objs.size g cdg)) := room.mono (by omega)
  have RP : ∀ (Y : Cx), Y.prog = X.prog → Y.w = X.w → Y.K = X.K → Y.mg = X.mg → Y.base = X.base → Y.A.guards = X.A.guards → Y.A.units = (X.A.deeper (envOfC "_law_told" (defScope sTold) s.heap.objs.size g cdg)).units → Y.A.depth = (X.A.deeper (envOfC "_law_told" (defScope sTold) s.heap.objs.size g cdg)).depth → CallR Y (.builtin "repr") (rRepZ X.K) := fun Y e1 e2 e3 e4 e5 e6 e7 e8 => by
    rw [← e3]
    exact call_repZ (Y := Y) (by rw [e3]; exact S) (by rw [e1, e2, e3, e4, e5]; exact RR) (by rw [e6]; exact gd) ⟨by rw [e8]; exact r2.dp, by rw [e7]; exact r2.un⟩
  refine ⟨_, pss_cons (ps_set (i := 1) scTold.nd rfl (Or.inl rfl) (pe_lst (pa_cons pe_str pa_nil)))
    (pss_cons (ps_try_named rfl rfl scTold.nd LamX.takes0 (fun W pn xe tk => pss_one (ps_set (i := 1) scTold.nd rfl (Or.inl rfl) (pe_lst (pa_cons pe_str (pa_cons (pe_callB (RP _ rfl rfl rfl rfl rfl rfl rfl rfl) (by rfl) rp (by decide +kernel) (pa_cons (act W pn xe _ _ tk) pa_nil)) pa_nil)))))
      (Clauses.cons (c := .ref (aIM X.K)) (i := 2) rfl rfl ⟨rfl, by decide, .inl Z.gM⟩ (fun a oe cls d pn hz hf => pss_one (ps_set (i := 1) scTold.nd rfl (Or.inl rfl) (pe_lst (pa_cons pe_str (pa_cons (pe_caught Z.xM hz hf (pv 2)) pa_nil)))))
      (Clauses.cons (c := .ref (aIC X.K)) (i := 2) rfl rfl ⟨rfl, by decide, .inl Z.gC⟩ (fun a oe cls d pn hz hf => pss_one (ps_set (i := 1) scTold.nd rfl (Or.inl rfl) (pe_lst (pa_cons pe_str (pa_cons (pe_callB (RP _ rfl rfl rfl rfl rfl rfl rfl rfl) (by rfl) rp (by decide +kernel) (pa_cons (pe_caught Z.xC hz hf (pv 2)) pa_nil)) pa_nil)))))
      (Clauses.cons (c := .ref (aTM X.K)) (i := 2) rfl rfl ⟨rfl, by decide, .inl Z.gT⟩ (fun a oe cls d pn hz hf => pss_one (ps_set (i := 1) scTold.nd rfl (Or.inl rfl) (pe_lst (pa_cons pe_str (pa_cons (pe_caught Z.xT hz hf (pv 2)) (pa_cons (pe_caught Z.xT hz hf (pv 2)) pa_nil))))))
      .nil))))
    (pss_one (ps_ret (pv 1)))), ?_⟩
  refine ⟨(by show 1 ≤ sizeLine; decide), fun l nl => ?_⟩
  have u1 := same_new (o := .lst [V.str "other"]) nl
  have hc1 := u1 _ _ hc
  generalize upd H l (.lst [V.str "other"]) = H1 at *
  refine ⟨rfl, hc1, ?_⟩
  rcases h with ⟨x, run, fin⟩ | ⟨v, z, hv, run, fin⟩ | ⟨run, fin⟩
  · refine run _ _ _ u1 fun d H2 k2 n2 e2 => ?_
    refine ⟨true, Z.mm, fun _ a na => ?_, (fun z => nomatch z)⟩
    refine ⟨_, rfl, rfl, rfl, _, _, Z.nM, .inr ⟨d, rfl, e2⟩, rfl, (by show 2 ≤ sizeLine; decide), fun p np => ?_⟩
    exact ⟨_, rfl, fin p _ ((u1.trans k2).trans (same_new np)) upd_same⟩
  · refine run _ _ _ u1 fun d H2 k2 n2 e2 => ?_
    refine ⟨false, Z.cm, (fun z => nomatch z), fun _ => ⟨true, Z.cc, fun _ a na => ?_, (fun z => nomatch z)⟩⟩
    refine ⟨_, rfl, rfl, rfl, _, _, Z.nC, .inr ⟨d, rfl, e2⟩, rfl, v, z, rfl, hv.same (u1.trans k2), (by show 2 ≤ sizeLine; decide), fun p np => ?_⟩
    exact ⟨_, rfl, fin p _ ((u1.trans k2).trans (same_new np)) upd_same⟩
  · refine run _ _ _ u1 fun d H2 k2 n2 e2 => ?_
    refine ⟨false, Z.tm, (fun z => nomatch z), fun _ => ⟨false, Z.tc, (fun z => nomatch z), fun _ => ⟨true, Z.tt, fun _ a na => ?_, (fun z => nomatch z)⟩⟩⟩
    refine ⟨_, rfl, rfl, rfl, _, _, Z.nK, .inr ⟨d, rfl, e2⟩, rfl, _, rfl, rfl, rfl, _, _, Z.nL, .inr ⟨d, rfl, e2⟩, rfl, (by show 3 ≤ sizeLine; decide), fun p np => ?_⟩
    exact ⟨_, rfl, fin p _ ((u1.trans k2).trans (same_new np)) upd_same⟩
end
end K18
set_option maxHeartbeats 4000000
namespace K18
open PySem PySem.Spec PyProof.Rows L2 GL
abbrev sIMi : Stmt := inClass (tp 5) 0
abbrev sICi : Stmt := inClass (tp 6) 0
abbrev sITi : Stmt := inClass (tp 7) 0
/-- what is known of a row as it is drawn -/
structure S80 (m : Mv) : Prop where
  d1 : 1 ≤ m.d
  d2 : m.d ≤ 99
  le : rBelow m.hi m.lo = false
  u : Sz 80 m.u
  lo : Sz 80 m.lo
  hi : Sz 80 m.hi
theorem S80.good {m : Mv} (h : S80 m) : m.good := ⟨h.d1, rBelow_not.mp h.le⟩
theorem S80.sd {m : Mv} (h : S80 m) : Sz 7 (m.d : Rat) := nat_sz (by have := h.d1; have := h.d2; omega) (by decide)
theorem pw_szd {m : Mv} (h : S80 m) (k : Nat) : Sz (7 * (k + 1) + 1) ((pw m k).d : Rat) := by
  have b := (pow_bd h.d1 h.d2 (k + 1)).2
  rw [← pw_d k] at b
  refine nat_sz (Nat.lt_of_le_of_lt b ?_) (by omega)
  rw [Nat.pow_succ]
  have : 0 < 2 ^ (7 * (k + 1)) := Nat.pow_pos (by decide)
  omega
theorem pw_szu {m : Mv} (h : S80 m) (k : Nat) : Sz (80 + 7 * (k + 1)) (pw m k).u := by
  obtain ⟨S, e, s⟩ := pw_u h.d1 h.d2 k
  rw [e]
  exact rMul_sz2 h.u (nat_sz s (by omega))
theorem pw_szl {m : Mv} (h : S80 m) (k : Nat) : Sz (161 + 7 * k) (pw m k).lo := by
  rw [pw_lo]
  exact (orb_sz h.d1 h.d2 h.u h.lo h.hi h.lo (itr_orb h.d1 h.d2 m.lo k)).mono (by omega)
theorem pw_szh {m : Mv} (h : S80 m) (k : Nat) : Sz (161 + 7 * k) (pw m k).hi := by
  rw [pw_hi]
  exact (orb_sz h.d1 h.d2 h.u h.lo h.hi h.hi (itr_orb h.d1 h.d2 m.hi k)).mono (by omega)
theorem pw_fits {m : Mv} (h : S80 m) {k : Nat} (hk : k ≤ 98) : Fits (pw m k) m where
  at_ := ⟨80, 847, 7, h.u, (pw_szl h k).mono (by omega), (pw_szh h k).mono (by omega), h.sd, by decide⟩
  d1 := h.d1
  d := (pw_szd h k).mono (by omega)
  u := (pw_szu h k).mono (by omega)
  v := h.u.mono (by decide)
  e := h.sd.mono (by decide)
  lo := h.lo.mono (by decide)
  hi := h.hi.mono (by decide)
section
variable {P : Program} {w : World} {K : PySem.W.Frag} {mg : Str → Option Value} {base : Heap}
structure RDo (P : Program) (w : World) (K : PySem.W.Frag) (mg : Str → Option Value) (base : Heap) : Prop where
  D : RD P w K mg base
  raised : MetX P w K mg base (aM K) "_raised" 9 ["self", "times"] (spRaised K)
  then_ : MetX P w K mg base (aM K) "then" 8 ["self", "other"] (spThen K)
  isInt : DefF P w K mg base "is_integer" 1 ["value"] (spIsInt K)
  range : mg "range" = none
  most : ∃ t, mg "MOST_TIMES" = some (.int 100 t)
/-! ### done -/
def spDone (K : PySem.W.Frag) : Sp := fun vs H Q _ => ∃ (s : Addr) (m : Mv) (n : Int), vs = [.ref s, .int n] ∧ MovM K H s m ∧ S80 m ∧ 1 ≤ n ∧
  ((1 < m.d ∧ n ≤ 100 ∧ ∀ p H', Same H H' → MovM K H' p (pw m (n - 1).toNat) → Q (.ref p) H') ∨ (m.d = 1 ∧ n ≤ 10 ^ 30 ∧ ∀ p H', Same H H' → MovM K H' p (rsd m n) → Q (.ref p) H'))
theorem scDone : FnScope ["self", "times", "move", "_"] ["self", "times"] (defScope (sMove 17)) := ⟨rfl, rfl, rfl, by decide +kernel, rfl, by decide +kernel, by decide +kernel⟩
theorem big30 {n : Int} (n1 : 1 ≤ n) (n2 : n ≤ 10 ^ 30) : n.natAbs < 2 ^ 100 := by
  have e : (2 : Nat) ^ 100 = 1267650600228229401496703205376 := by decide
  have e2 : (10 : Int) ^ 30 = 1000000000000000000000000000000 := by decide
  omega
theorem ok_done {f : Addr} {fd : FuncData} (F : FunD K "done" "Move.done" (defArgs (sMove 17)) (defBody (sMove 17)) (defScope (sMove 17)) [] [] f fd) (U : RDo P w K mg base) : FnOk P w K mg base CX0 10 f fd ["self", "times"] (spDone K) := by
  obtain ⟨fR, fdR, mR, GR, bR⟩ := U.raised
  obtain ⟨fT, fdT, mT, GT, bT⟩ := U.then_
  obtain ⟨fI, fdI, GI, gI, bI, kI⟩ := U.isInt
  obtain ⟨tk, gM⟩ := U.most
  have T := U.D.N.M.T
  refine F.ok scDone (fun vs H Q E h => ?_) (fun cdv A outer s H vs Q E hr h => ?_)
  · obtain ⟨s, m, n, rfl, _⟩ := h
    rfl
  · obtain ⟨s, m, n, rfl, hs, S, n1, h⟩ := h
    have r1 : Room 1 _ := hr.mono (by decide)
    have r8 : Room 8 _ := hr.mono (by decide)
    refine ⟨_, PSs.nox (pss_cons (ps_if (PW.pt (pw_or (pt_not (pt_val (pe_call GI r1 rfl gI kI bI .nil pass0 (pa_cons (pv 1) pa_nil)))) (pw_or1 (pt_cmpR op_lt (pv 1) pe_int (nomark _))))) (pss_one ps_never) pss_nil)
      (pss_cons (ps_if (pt_cmpR op_eq (pe_fld (pv 0) rfl) pe_int (nomark _)) (pss_one (ps_ret (pe_meth (pv 0) T.cl mR GR hr bR .nil pass0 (pa_cons (pv 1) pa_nil)))) pss_nil)
      (pss_cons (ps_if (pt_cmpR op_gt (pv 1) (pe_glob (v := .int 100) rfl gM ⟨tk, rfl⟩) (nomark _)) (pss_one ps_never) pss_nil)
      (pss_cons (ps_set (i := 2) scDone.nd rfl (Or.inl rfl) (pv 0))
      (pss_cons (ps_for PassesOwn.never rfl (pi_range1 (by rfl) U.range (pa_cons (pe_op op_sub (pv 1) pe_int) pa_nil)) (pg_name (i := 3) scDone.nd rfl (Or.inl rfl)) (pss_one (ps_set (i := 2) scDone.nd rfl (Or.inl rfl) (pe_meth (pv 2) T.cl mT GT r8 bT .nil pass0 (pa_cons (pv 0) pa_nil)))))
      (pss_one (ps_ret (pv 2)))))))), ?_⟩
    obtain ⟨d1, le, dx, pa, pb, pc, es, ha, hb, hc⟩ := id hs
    refine ⟨_, rfl, .int n, .type "int", true, false, rfl, .base (.int n), kit_ty (by decide +kernel), fun _ => kit_ty (by decide +kernel), true, rfl, ?_⟩
    refine iteF ⟨_, rfl, _, _, rfl, rfl, _, rfl, ?_⟩
    have e0 : decide (n < 1) = false := decide_eq_false (by omega)
    dsimp only
    rw [e0]
    refine iteF ⟨_, rfl, s, _, dx, _, _, rfl, es, T.cl, T.nD, rfl, rfl, _, rfl, ?_⟩
    have su := S.u
    have sl := S.lo
    have sh := S.hi
    rcases h with ⟨g1, n2, k⟩ | ⟨g1, n2, k⟩
    · refine ite2 (fun e => ?_) (fun e => ?_)
      · have e1 : m.d = 1 := by
          have := of_decide_eq_true e
          injection this
        omega
      · refine ⟨_, rfl, _, _, rfl, rfl, _, rfl, ?_⟩
        have e2 : decide (n > 100) = false := decide_eq_false (by omega)
        rw [e2]
        refine iteF ⟨_, rfl, ?_⟩
        refine ⟨_, rfl, _, _, rfl, rfl, n - 1, rfl, by omega, by omega, ?_⟩
        refine for_range (n := (n - 1).toNat) (fun i σ H' => Same H H' ∧ ∃ p rv, σ = [some (.ref s), some (.int n), some (.ref p), rv] ∧ MovM K H' p (pw m i)) ?_ ?_ ?_
        · exact ⟨fun _ _ e => e, s, _, rfl, hs⟩
        · rintro i σ H1 hi ⟨k1, p, rv, rfl, hp⟩
          have a := pw_szd S i
          have b := pw_szu S i
          have c := pw_szl S i
          have e := pw_szh S i
          obtain ⟨p1, pl, py, qa, qb, qc, ep, _⟩ := id hp
          refine ⟨_, rfl, p, py, _, rfl, ep, rfl, _, rfl, p, s, (pw m i).d, m.d, (pw m i).u, (pw m i).lo, (pw m i).hi, m.u, m.lo, m.hi, rfl, hp, hs.same k1, b.mono (by omega), su.mono (by decide), c.mono (by omega), e.mono (by omega), sl.mono (by decide), sh.mono (by decide), a.mono (by omega), S.sd.mono (by decide), fun p2 H2 k2 hp2 => ?_⟩
          exact ⟨k1.trans k2, p2, _, rfl, hp2⟩
        · rintro σ H1 ⟨k1, p, rv, rfl, hp⟩
          exact ⟨_, rfl, k p H1 k1 hp⟩
    · have e0 : decide (V.int m.d = V.int 1) = true := decide_eq_true (by rw [g1])
      rw [e0]
      have b1 := big30 n1 n2
      have ns : Sz 1000 (n : Rat) := (nat_sz b1 (by decide)).mono (by decide)
      have ns1 : Sz 1000 ((n - 1 : Int) : Rat) := (nat_sz (n := 100) (by omega) (by decide)).mono (by decide)
      exact iteT ⟨_, rfl, s, dx, _, rfl, es, rfl, _, rfl, s, m.d, n, m.u, m.lo, m.hi, rfl, hs, n1, ns, ns1, su.mono (by decide), sl.mono (by decide), sh.mono (by decide), fun p H' k' hp => k p H' k' hp⟩
/-! ### done and then, refused -/
/-- how the errors are made -/
def MkE (P : Program) (w : World) (K : PySem.W.Frag) (mg : Str → Option Value) (base : Heap) (C : Addr) (fl : List Str) : Prop := ∃ fI fd, PySem.W.findIn K (.ref C) "__init__" = some (some (.ref fI)) ∧ PySem.W.typeIn K (.ref fI) = some (.type "function") ∧ FnOk P w K mg base CX0 1 fI fd ("self" :: fl) (spInit C fl) ∧ Binds K fd ("self" :: fl) []
structure EM (P : Program) (w : World) (K : PySem.W.Frag) (mg : Str → Option Value) (base : Heap) : Prop where
  F : EF K mg
  mM : MkE P w K mg base (aIM K) ["part"]
  mC : MkE P w K mg base (aIC K) ["value"]
  mT : MkE P w K mg base (aTM K) ["kind", "limit"]
/-- not of the class at C -/
def NotA (K : PySem.W.Frag) (C : Addr) (H : Hp) (x : V) : Prop := ∃ t, TyX K H x t ∧ PySem.W.kitOne K t (.ref C) = some false
/-- no whole number -/
def NotI (K : PySem.W.Frag) (H : Hp) (x : V) : Prop := ∃ t b1 b2, TyX K H x t ∧ PySem.W.kitOne K t (.type "int") = some b1 ∧ (b1 = true → PySem.W.kitOne K t (.type "bool") = some b2) ∧ (b1 && !b2) = false
def BadD (K : PySem.W.Frag) (H : Hp) (x : V) : Prop := NotI K H x ∨ ∃ i : Int, x = .int i ∧ i < 1
theorem passE {X : Cx} {E : XK} (tk : Takes X fun cls d _ H => E cls d H) : Passes (L2.CX X.prog X.w) X E := passes_call tk fun _ _ _ _ h => h
def spDoneX (K : PySem.W.Frag) : Sp := fun vs H Q E => ∃ (s : Addr) (m : Mv) (x : V), vs = [.ref s, x] ∧ MovM K H s m ∧ ((BadD K H x ∧ outF (aIC K) [("value", x)] H E) ∨ ∃ n : Int, x = .int n ∧ 1 < m.d ∧ 100 < n ∧ outF (aTM K) fMany H E)
theorem ok_doneX {f : Addr} {fd : FuncData} (F : FunD K "done" "Move.done" (defArgs (sMove 17)) (defBody (sMove 17)) (defScope (sMove 17)) [] [] f fd) (U : RDo P w K mg base) (Z : EM P w K mg base) : FnOk P w K mg base (L2.CX P w) 4 f fd ["self", "times"] (spDoneX K) := by
  obtain ⟨fI, fdI, GI, gI, bI, kI⟩ := U.isInt
  obtain ⟨tk, gM⟩ := U.most
  obtain ⟨fC, fdC, c1, c2, GC, bC⟩ := Z.mC
  obtain ⟨fT, fdT, t1, t2, GT, bT⟩ := Z.mT
  have T := U.D.N.M.T
  refine F.ok scDone (fun vs H Q E h => ?_) (fun cdv A outer s H vs Q E hr h => ?_)
  · obtain ⟨s, m, x, rfl, _⟩ := h
    rfl
  · obtain ⟨s, m, x, rfl, hs, h⟩ := h
    have r1 : Room 1 _ := hr.mono (by decide)
    have r3 : Room 2 _ := hr.mono (by decide)
    refine ⟨_, pss_cons (ps_if (PW.pt (pw_or (pt_not (pt_val (pe_call GI r1 rfl gI kI bI .nil pass0 (pa_cons (pv 1) pa_nil)))) (pw_or1 (pt_cmpR op_lt (pv 1) pe_int (nomark _))))) (pss_one (ps_raise rfl (takes_of rfl rfl rfl rfl) (pmk_x Z.F.xC c1 c2 GC r3 bC rfl Z.F.gC (pa_cons (pv 1) pa_nil)))) pss_nil)
      (pss_cons (ps_if (pt_cmpR op_eq (pe_fld (pv 0) rfl) pe_int (nomark _)) (pss_one ps_never) pss_nil)
      (pss_cons (ps_if (pt_cmpR op_gt (pv 1) (pe_glob (v := .int 100) rfl gM ⟨tk, rfl⟩) (nomark _)) (pss_one (ps_raise rfl (takes_of rfl rfl rfl rfl) (pmk_x Z.F.xT t1 t2 GT r3 bT rfl Z.F.gT (pa_cons pe_str (pa_cons (pe_glob (v := .int 100) rfl gM ⟨tk, rfl⟩) pa_nil))))) pss_nil)
      (pss_cons ps_never (pss_cons ps_never (pss_one ps_never))))), ?_⟩
    obtain ⟨d1, le, dx, pa, pb, pc, es, ha, hb, hc⟩ := id hs
    rcases h with ⟨⟨t, b1, b2, ty, k1, k2, e⟩ | ⟨i, rfl, i1⟩, out⟩ | ⟨n, rfl, g1, n2, out⟩
    · refine ⟨_, rfl, x, t, b1, b2, rfl, ty, k1, k2, (b1 && !b2), rfl, ?_⟩
      rw [e]
      exact iteT (iteT ⟨_, rfl, rfl, by show 1 ≤ 1000; decide, fun d H2 k2 n2 e2 => out d H2 k2 n2 e2⟩)
    · refine ⟨_, rfl, .int i, .type "int", true, false, rfl, .base (.int i), kit_ty (by decide +kernel), fun _ => kit_ty (by decide +kernel), true, rfl, ?_⟩
      refine iteF ⟨_, rfl, _, _, rfl, rfl, _, rfl, ?_⟩
      have e0 : decide (i < 1) = true := decide_eq_true (by omega)
      dsimp only
      rw [e0]
      exact iteT ⟨_, rfl, rfl, by show 1 ≤ 1000; decide, fun d H2 k2 n2 e2 => out d H2 k2 n2 e2⟩
    · refine ⟨_, rfl, .int n, .type "int", true, false, rfl, .base (.int n), kit_ty (by decide +kernel), fun _ => kit_ty (by decide +kernel), true, rfl, ?_⟩
      refine iteF ⟨_, rfl, _, _, rfl, rfl, _, rfl, ?_⟩
      have e0 : decide (n < 1) = false := decide_eq_false (by omega)
      dsimp only
      rw [e0]
      refine iteF ⟨_, rfl, s, _, dx, _, _, rfl, es, T.cl, T.nD, rfl, rfl, _, rfl, ?_⟩
      have e1 : decide (V.int m.d = V.int 1) = false := decide_eq_false (fun z => by injection z; omega)
      rw [e1]
      refine iteF ⟨_, rfl, _, _, rfl, rfl, _, rfl, ?_⟩
      have e2 : decide (n > 100) = true := decide_eq_true (by omega)
      rw [e2]
      exact iteT ⟨rfl, by show 2 ≤ 1000; decide, fun d H2 k2 n2 e2 => out d H2 k2 n2 e2⟩
/-! ### then, of no move -/
def spChkOtherX (K : PySem.W.Frag) : Sp := fun vs H Q E => ∃ x : V, vs = [x] ∧ NotA K (aM K) H x ∧ outF (aIM K) [("part", .str "other")] H E
theorem ok_chkOtherX {f : Addr} {fd : FuncData} (F : Fun K "_check_other" "_check_other" sChkOther f fd) (M : RM P w K mg base) (Z : EM P w K mg base) : FnOk P w K mg base (L2.CX P w) 3 f fd ["value"] (spChkOtherX K) := by
  obtain ⟨fI, fdI, i1, i2, GI, bI⟩ := Z.mM
  refine F.okX scChkOther (fun vs H Q E h => ?_) (fun cdv A outer s H vs Q E hr h => ?_)
  · obtain ⟨x, rfl, _⟩ := h
    rfl
  · refine ⟨_, pss_one (ps_if (pt_not (pt_val (pe_callB call_isi (by rfl) M.L.C.J.I.R.G.T.isi (by decide +kernel) (pa_cons (pv 0) (pa_cons (pe_glob (v := .ref (aM K)) rfl M.T.gM rfl) pa_nil)))))
      (pss_one (ps_raise rfl (takes_of rfl rfl rfl rfl) (pmk_x Z.F.xM i1 i2 GI hr bI rfl Z.F.gM (pa_cons pe_str pa_nil)))) pss_nil), ?_⟩
    obtain ⟨x, rfl, ⟨t, ty, no⟩, k⟩ := h
    exact ⟨_, rfl, x, .ref (aM K), t, _, false, rfl, .own _, ty, no, false, rfl, iteT ⟨rfl, by show 1 ≤ 1000; decide, fun d H2 k2 n2 e2 => k d H2 k2 n2 e2⟩⟩
def spThenX (K : PySem.W.Frag) : Sp := fun vs H Q E => ∃ (s : Addr) (x : V), vs = [.ref s, x] ∧ NotA K (aM K) H x ∧ outF (aIM K) [("part", .str "other")] H E
theorem ok_thenX {f fO : Addr} {fd fdO : FuncData} (F : FunD K "then" "Move.then" (defArgs (sMove 11)) (defBody (sMove 11)) (defScope (sMove 11)) [] [] f fd) (GO : FnOk P w K mg base (L2.CX P w) 3 fO fdO ["value"] (spChkOtherX K)) (gO : mg "_check_other" = some (.ref fO)) (kO : PySem.W.keepIn K (.ref fO) = true) (bO : Binds K fdO ["value"] []) : FnOk P w K mg base (L2.CX P w) 4 f fd ["self", "other"] (spThenX K) := by
  refine F.ok scThen (fun vs H Q E h => ?_) (fun cdv A outer s H vs Q E hr h => ?_)
  · obtain ⟨s, x, rfl, _⟩ := h
    rfl
  · obtain ⟨s', x, rfl, no, out⟩ := h
    refine ⟨_, pss_cons (ps_expr (pe_call GO hr rfl gO kO bO .nil (passE (takes_of rfl rfl rfl rfl)) (pa_cons (pv 1) pa_nil))) (pss_cons ps_never (pss_one ps_never)), ?_⟩
    exact ⟨_, rfl, x, rfl, no, out⟩
end
end K18
set_option maxHeartbeats 8000000
namespace K18
open PySem PySem.Spec PyProof.Rows L2 GL
abbrev sThenR : Stmt := tp 41
/-- all but the lists stands -/
def KeepL (H H' : Hp) : Prop := ∀ a o, H a = some o → (∀ xs, o ≠ .lst xs) → H' a = some o
theorem keepL_upd {H : Hp} {l : Addr} {xs : List V} {o : HO} (h : H l = some (.lst xs)) : KeepL H (upd H l o) := fun a u e n => by
  rw [upd_ne (fun z => by rw [z, h] at e; exact n xs (Option.some.inj e).symm)]
  exact e
theorem RatAt.keepL {K : PySem.W.Frag} {H H' : Hp} {a : Addr} {q : Rat} (h : RatAt K H a q) (k : KeepL H H') : RatAt K H' a q := by
  obtain ⟨d, e⟩ := h
  exact ⟨d, k _ _ e fun _ z => nomatch z⟩
theorem PartAt.keepL {H H' : Hp} {a : Addr} {q : Rat} (h : PartAt H a q) (k : KeepL H H') : PartAt H' a q := k _ _ h fun _ z => nomatch z
theorem MovAt.keepL {K : PySem.W.Frag} {H H' : Hp} {s : Addr} {d : Int} {u lo hi : Rat} (h : MovAt K H s d u lo hi) (k : KeepL H H') : MovAt K H' s d u lo hi := by
  obtain ⟨l, m, dx, a, b, c, e, ha, hb, hc⟩ := h
  exact ⟨l, m, dx, a, b, c, k _ _ e (fun _ z => nomatch z), ha.keepL k, hb.keepL k, hc.keepL k⟩
theorem fits0 {m n : Mv} (h : S80 m) (k : S80 n) : Fits m n where
  at_ := ⟨80, 80, 7, k.u, h.lo, h.hi, k.sd, by decide⟩
  d1 := k.d1
  d := h.sd.mono (by decide)
  u := h.u.mono (by decide)
  v := k.u.mono (by decide)
  e := k.sd.mono (by decide)
  lo := k.lo.mono (by decide)
  hi := k.hi.mono (by decide)
/-- two rows, one behind the other -/
structure S170 (m : Mv) : Prop where
  d1 : 1 ≤ m.d
  d2 : m.d ≤ 9801
  g : m.good
  d : Sz 14 (m.d : Rat)
  u : Sz 168 m.u
  lo : Sz 168 m.lo
  hi : Sz 168 m.hi
theorem thn_170 {m n : Mv} (h : S80 m) (k : S80 n) : S170 (thn m n) := by
  have md : (m.d * n.d) ≤ 99 * 99 := Int.mul_le_mul h.d2 k.d2 (by have := k.d1; omega) (by decide)
  have m1 := one_mul_le h.d1 k.d1
  exact ⟨m1, md, thn_good h.good k.good, nat_sz (by show (m.d * n.d).natAbs < _; omega) (by decide), rAdd_sz2 h.u (rMul_sz2 k.u h.sd), mAt_sz2 k.d1 k.u h.lo k.sd k.lo k.hi (by decide), mAt_sz2 k.d1 k.u h.hi k.sd k.lo k.hi (by decide)⟩
theorem fits1 {m n : Mv} (h : S170 m) (k : S80 n) : Fits m n where
  at_ := ⟨80, 168, 7, k.u, h.lo, h.hi, k.sd, by decide⟩
  d1 := k.d1
  d := h.d.mono (by decide)
  u := h.u.mono (by decide)
  v := k.u.mono (by decide)
  e := k.sd.mono (by decide)
  lo := k.lo.mono (by decide)
  hi := k.hi.mono (by decide)
section
variable {P : Program} {w : World} {K : PySem.W.Frag} {mg : Str → Option Value} {base : Heap}
theorem eq_mov {mg' : Str → Option Value} {H : Hp} {a b : Addr} {d e : Int} {u lo hi v l2 h2 : Rat} {Q : VK} (T : MF K mg') (hx : MovAt K H a d u lo hi) (hy : MovAt K H b e v l2 h2) (k : Q (.bl (cMEq d u lo hi e v l2 h2)) H) : rOwnE K (aM K) (spMEq K) (fun _ _ _ => False) (.ref a) (.ref b) H Q := by
  obtain ⟨d1, le, dx, pa, pb, pc, es, _⟩ := id hx
  exact ⟨a, dx, _, .ref (aM K), rfl, es, hy.ty T, (by unfold PySem.W.notFirst; rw [beq_self_eq_true, Bool.true_or]), a, .ref b, d, u, lo, hi, rfl, hx, .inl ⟨b, e, v, l2, h2, rfl, hy, k⟩⟩
theorem ne_mov {mg' : Str → Option Value} {H : Hp} {a b : Addr} {d e : Int} {u lo hi v l2 h2 : Rat} {Q : VK} (T : MF K mg') (hx : MovAt K H a d u lo hi) (hy : MovAt K H b e v l2 h2) (k : Q (.bl (!cMEq d u lo hi e v l2 h2)) H) : rOwnN K (aM K) (spMEq K) (fun _ _ _ => False) (.ref a) (.ref b) H Q := by
  obtain ⟨d1, le, dx, pa, pb, pc, es, _⟩ := id hx
  exact ⟨a, dx, _, .ref (aM K), rfl, es, hy.ty T, (by unfold PySem.W.notFirst; rw [beq_self_eq_true, Bool.true_or]), a, .ref b, d, u, lo, hi, rfl, hx, .inl ⟨b, e, v, l2, h2, rfl, hy, _, rfl, k⟩⟩

structure LT (P : Program) (w : World) (K : PySem.W.Frag) (mg : Str → Option Value) (base : Heap) : Prop where
  Y : MvF P w K mg base
  eqM : ∃ f, OwnEq K (aM K) f ∧ FnR P w K mg base CX0 3 f (spMEq K)
  then_ : MetX P w K mg base (aM K) "then" 8 ["self", "other"] (spThen K)
  rl : DefF P w K mg base "_law_real" 4 ["_law_rng_here", "_law_part"] (spReal K)
  nr : DefF P w K mg base "_law_near" 4 ["_law_rng_here", "_law_row"] (spNear K)
  at_ : DefF P w K mg base "_law_at" 3 ["_law_row", "_law_part"] (spAtL K)
  md : DefF P w K mg base "_law_made" 8 ["_law_rng_here", "_law_row"] (spMadeL K)
  th : DefF P w K mg base "_law_then" 4 ["_law_row", "_law_further"] (spThenL K)
  isM : DefG P w K mg base "_law_is_move" 4 ["_law_made_here", "_law_row"] (spIsMove K)
/-! ### moves behind one another -/
def spThenR (K : PySem.W.Frag) : Sp := fun vs H Q _ => ∃ (p l t0 t1 t2 : Addr) (m0 m1 m2 : Mv), vs = [.ref p, .ref l] ∧ Rng H p ∧ H l = some (.lst [.ref t0, .ref t1, .ref t2]) ∧ l ≠ p ∧ RowM H t0 m0 ∧ RowM H t1 m1 ∧ RowM H t2 m2 ∧ S80 m0 ∧ S80 m1 ∧ S80 m2 ∧ ∀ H', Same (off H p) H' → Rng H' p → Q (.bl true) H'
abbrev nThenR : List Str := ["_law_rng_here", "_law_rows", "_law_made_here", "_law_due", "_law_whole", "_law_part", "_law_row"]
theorem scThenR : FnScope nThenR ["_law_rng_here", "_law_rows"] (defScope sThenR) := ⟨rfl, rfl, rfl, by decide +kernel, rfl, by decide +kernel, by decide +kernel⟩
theorem ok_thenR {f : Addr} {fd : FuncData} (F : Fun K "_law_then_right" "_law_then_right" sThenR f fd) (X : LT P w K mg base) : FnG P w K mg base CX0 9 f fd ["_law_rng_here", "_law_rows"] (spThenR K) := by
  obtain ⟨fT, fdT, mT, GT, bT⟩ := X.then_
  obtain ⟨fR, fdR, GR, gR, bR, kR⟩ := X.rl
  obtain ⟨fN, fdN, GN, gN, bN, kN⟩ := X.nr
  obtain ⟨fA, fdA, GA, gA, bA, kA⟩ := X.at_
  obtain ⟨fM, fdM, GM, gM, bM, kM⟩ := X.md
  obtain ⟨fH, fdH, GH, gH, bH, kH⟩ := X.th
  obtain ⟨fV, fdV, GV, gV, bV, kV⟩ := X.isM
  obtain ⟨fI, fdI, GI, gI, bI, kI⟩ := X.Y.is
  obtain ⟨fP, fdP, mP, GP, bP⟩ := X.Y.Z.N.at_
  obtain ⟨fE, oE, GE⟩ := X.eqM
  have T := X.Y.Z.N.M.T
  refine Fun.okG F scThenR (fun vs H Q E h => ?_) (fun cdv A outer s H vs Q E gd hr h => ?_)
  · obtain ⟨p, l, t0, t1, t2, m0, m1, m2, rfl, _⟩ := h
    rfl
  · obtain ⟨p, l, t0, t1, t2, m0, m1, m2, rfl, R, hl, lp, h0, h1, h2, S0, S1, S2, k⟩ := h
    have r3 : Room 3 _ := hr.mono (by decide)
    have r4 : Room 4 _ := hr.mono (by decide)
    have r7 : Room 7 _ := hr.mono (by decide)
    refine ⟨_, pss_cons (ps_setLc (i := 2) (own := [("_law_row", 6)]) (g := gName 6) (tt := tYes) (te := tCall (spMadeL K) [] E0 (tCons (tVar 0) (tCons (tVar 6) tNil))) (by rfl) scThenR.nd rfl rfl (sw_true rfl rfl rfl (by decide +kernel)) (pi_list (pv 1))
        (blkOk_by (own := [("_law_row", 6)]) (N := nThenR) (sc := defScope sThenR) (by decide +kernel)) (fun _ _ _ _ _ => pg_name (i := 6) scThenR.nd rfl (Or.inl rfl)) (fun _ _ _ _ _ => pts_nil)
        (fun _ _ _ _ _ => by exact (pe_call GM hr rfl gM kM bM .nil pass0 (pa_cons (pv 0) (pa_cons (pv 6) pa_nil)))))
      (pss_cons (ps_set (i := 3) scThenR.nd rfl (Or.inl rfl) (pe_call GH r4 rfl gH kH bH .nil pass0 (pa_cons (pe_ix ix_list (pv 1) pe_int (fun _ _ => rfl)) (pa_cons (pe_ix ix_list (pv 1) pe_int (fun _ _ => rfl)) pa_nil))))
      (pss_cons (ps_set (i := 4) scThenR.nd rfl (Or.inl rfl) (pe_meth (pe_ix ix_list (pv 2) pe_int (fun _ _ => rfl)) T.cl mT GT hr bT .nil pass0 (pa_cons (pe_ix ix_list (pv 2) pe_int (fun _ _ => rfl)) pa_nil)))
      (pss_cons (ps_if (pt_not (pt_val (pe_callG GV gd r4 rfl gV kV bV .nil pass0 (pa_cons (pv 4) (pa_cons (pv 3) pa_nil))))) (pss_one (ps_ret pe_bl)) pss_nil)
      (pss_cons (ps_for PassesOwn.never rfl (pi_list (pe_op op_cat (pe_op op_cat (pe_call GN r4 rfl gN kN bN .nil pass0 (pa_cons (pv 0) (pa_cons (pe_ix ix_list (pv 1) pe_int (fun _ _ => rfl)) pa_nil))) (pe_call GN r4 rfl gN kN bN .nil pass0 (pa_cons (pv 0) (pa_cons (pe_ix ix_list (pv 1) pe_int (fun _ _ => rfl)) pa_nil))))
          (pe_call GN r4 rfl gN kN bN .nil pass0 (pa_cons (pv 0) (pa_cons (pv 3) pa_nil))))) (pg_name (i := 5) scThenR.nd rfl (Or.inl rfl))
        (pss_one (ps_if (pt_not (pt_val (pe_callG GI gd r3 rfl gI kI bI .nil pass0 (pa_cons (pe_meth (pv 4) T.cl mP GP r7 bP .nil pass0 (pa_cons (pe_call GR r4 rfl gR kR bR .nil pass0 (pa_cons (pv 0) (pa_cons (pv 5) pa_nil))) pa_nil))
          (pa_cons (pe_call GA r3 rfl gA kA bA .nil pass0 (pa_cons (pe_ix ix_list (pv 1) pe_int (fun _ _ => rfl)) (pa_cons (pe_call GA r3 rfl gA kA bA .nil pass0 (pa_cons (pe_ix ix_list (pv 1) pe_int (fun _ _ => rfl)) (pa_cons (pv 5) pa_nil))) pa_nil))) pa_nil))))) (pss_one (ps_ret pe_bl)) pss_nil)))
      (pss_cons (ps_if (pt_cmpR (op_neO oE GE r4 pass0) (pe_meth (pv 4) T.cl mT GT hr bT .nil pass0 (pa_cons (pe_ix ix_list (pv 2) pe_int (fun _ _ => rfl)) pa_nil))
          (pe_meth (pe_ix ix_list (pv 2) pe_int (fun _ _ => rfl)) T.cl mT GT hr bT .nil pass0 (pa_cons (pe_meth (pe_ix ix_list (pv 2) pe_int (fun _ _ => rfl)) T.cl mT GT hr bT .nil pass0 (pa_cons (pe_ix ix_list (pv 2) pe_int (fun _ _ => rfl)) pa_nil)) pa_nil)) (nomark _)) (pss_one (ps_ret pe_bl)) pss_nil)
      (pss_one (ps_ret (pe_and (pe_callG GV gd r4 rfl gV kV bV .nil pass0 (pa_cons (pe_meth (pv 4) T.cl mT GT hr bT .nil pass0 (pa_cons (pe_ix ix_list (pv 2) pe_int (fun _ _ => rfl)) pa_nil)) (pa_cons (pe_call GH r4 rfl gH kH bH .nil pass0 (pa_cons (pv 3) (pa_cons (pe_ix ix_list (pv 1) pe_int (fun _ _ => rfl)) pa_nil))) pa_nil)))
        (pe_one (pe_callG GV gd r4 rfl gV kV bV .nil pass0 (pa_cons (pe_ix ix_list (pv 2) pe_int (fun _ _ => rfl)) (pa_cons (pe_ix ix_list (pv 1) pe_int (fun _ _ => rfl)) pa_nil)))))))))))), ?_⟩
    have su0 : Sz 1000 m0.u := S0.u.mono (by decide)
    have sl0 : Sz 1000 m0.lo := S0.lo.mono (by decide)
    have sh0 : Sz 1000 m0.hi := S0.hi.mono (by decide)
    -- the moves
    refine ⟨_, rfl, l, rfl, ⟨_, SqL.of hl⟩, fun D hD => ?_⟩
    have Dp_ : D ≠ p := R.ne_new hD
    have rows : ∀ (i : Nat) (x : V) (G : Hp), Same (off H p) G → [V.ref t0, .ref t1, .ref t2][i]? = some x → ∃ t m, x = .ref t ∧ [m0, m1, m2][i]? = some m ∧ RowM G t m ∧ S80 m := by
      intro i x G k' e
      match i, e with
      | 0, e => cases e; exact ⟨t0, m0, rfl, rfl, (h0.offR R).same k', S0⟩
      | 1, e => cases e; exact ⟨t1, m1, rfl, rfl, (h1.offR R).same k', S1⟩
      | 2, e => cases e; exact ⟨t2, m2, rfl, rfl, (h2.offR R).same k', S2⟩
    refine lc_list (K := K) (a := l) (xs := [V.ref t0, .ref t1, .ref t2]) (fun i G => ∃ acc, G D = some (.lst acc) ∧ acc.length = i ∧ Same (off H p) G ∧ Rng G p ∧ ∀ (j : Nat) v, acc[j]? = some v → ∃ s m, v = V.ref s ∧ [m0, m1, m2][j]? = some m ∧ MovM K G s m) ⟨[], upd_same, rfl, fun x o e => same_new hD x o (off_some e).2, R.same (same_new hD), fun j v e => nomatch e⟩ (fun i G _ ⟨_, _, _, s, _⟩ => SqL.of (s l _ (by rw [off_ne lp]; exact hl))) ?_ ?_
    · rintro i x G hx ⟨acc, hacc, lacc, s, RG, ms⟩
      obtain ⟨t, m, rfl, em, ht, S⟩ := rows i x G s hx
      have il : i < 3 := (List.getElem?_eq_some_iff.mp hx).1
      refine ⟨rfl, ?_⟩
      refine ⟨_, rfl, _, rfl, p, t, m.d, m.u, m.lo, m.hi, rfl, RG, ht, S.d1, S.le, S.u.mono (by decide), S.lo.mono (by decide), S.hi.mono (by decide), fun sm G1 k1 R1 hm => ?_⟩
      have hacc1 := k1 D _ (by rw [off_ne Dp_]; exact hacc)
      have kl := keepL_upd (o := .lst (acc ++ [V.ref sm])) hacc1
      refine ⟨acc, hacc1, (by rw [sizeLine_eq]; omega), acc ++ [.ref sm], upd_same, (by rw [List.length_append, List.length_singleton, lacc]), fun y o e => ?_, ?_, fun j v e => ?_⟩
      · rw [upd_ne (ne_of_none (off_some e).2 hD)]
        exact off_off s k1 y o e
      · obtain ⟨x', y', ep, r⟩ := R1
        exact ⟨x', y', by rw [upd_ne Dp_.symm]; exact ep, r⟩
      · by_cases jl : j < acc.length
        · rw [List.getElem?_append_left jl] at e
          obtain ⟨s', m', e1, e2, h'⟩ := ms j v e
          exact ⟨s', m', e1, e2, ((h'.offR RG).same k1).keepL kl⟩
        · have jn : j = acc.length := by
            have := (List.getElem?_eq_some_iff.mp e).1
            rw [List.length_append, List.length_singleton] at this
            omega
          subst jn
          rw [List.getElem?_append_right (Nat.le_refl _), Nat.sub_self] at e
          cases e
          exact ⟨sm, m, rfl, by rw [lacc]; exact em, hm.keepL kl⟩
    rintro G ⟨acc, hacc, lacc, s, RG, ms⟩
    obtain ⟨v0, v1, v2, rfl⟩ : ∃ a b c, acc = [a, b, c] := by
      match acc, lacc with
      | [a, b, c], _ => exact ⟨a, b, c, rfl⟩
    obtain ⟨s0, _, rfl, e0, hs0⟩ := ms 0 v0 rfl
    cases e0
    obtain ⟨s1, _, rfl, e1, hs1⟩ := ms 1 v1 rfl
    cases e1
    obtain ⟨s2, _, rfl, e2, hs2⟩ := ms 2 v2 rfl
    cases e2
    have hl1 := s l _ (by rw [off_ne lp]; exact hl)
    have g0 := (h0.offR R).same s
    have g1 := (h1.offR R).same s
    have g2 := (h2.offR R).same s
    have c0 : Same (off H p) G ∧ Rng G p ∧ G l = some (.lst [.ref t0, .ref t1, .ref t2]) ∧ G D = some (.lst [.ref s0, .ref s1, .ref s2]) ∧ (RowM G t0 m0 ∧ RowM G t1 m1 ∧ RowM G t2 m2) ∧ MovM K G s0 m0 ∧ MovM K G s1 m1 ∧ MovM K G s2 m2 := ⟨s, RG, hl1, hacc, ⟨g0, g1, g2⟩, hs0, hs1, hs2⟩
    clear hl1 hacc g0 g1 g2 hs0 hs1 hs2 ms lacc s RG rows hD
    obtain ⟨C, hC⟩ : ∃ C : Hp → Prop, ∀ G, C G ↔ (Same (off H p) G ∧ Rng G p ∧ G l = some (.lst [.ref t0, .ref t1, .ref t2]) ∧ G D = some (.lst [.ref s0, .ref s1, .ref s2]) ∧ (RowM G t0 m0 ∧ RowM G t1 m1 ∧ RowM G t2 m2) ∧ MovM K G s0 m0 ∧ MovM K G s1 m1 ∧ MovM K G s2 m2) := ⟨_, fun _ => Iff.rfl⟩
    have stS : ∀ {G G' : Hp}, C G → Same G G' → C G' := by
      intro G G' c s
      obtain ⟨c1, c2, c3, c4, ⟨c5, c6, c7⟩, c8, c9, c10⟩ := (hC _).mp c
      exact (hC _).mpr ⟨fun x o e => s _ _ (c1 x o e), c2.same s, s _ _ c3, s _ _ c4, ⟨c5.same s, c6.same s, c7.same s⟩, c8.same s, c9.same s, c10.same s⟩
    have stO : ∀ {G G' : Hp}, C G → Same (off G p) G' → Rng G' p → C G' := by
      intro G G' c s R'
      obtain ⟨c1, c2, c3, c4, ⟨c5, c6, c7⟩, c8, c9, c10⟩ := (hC _).mp c
      exact (hC _).mpr ⟨off_off c1 s, R', s l _ (by rw [off_ne lp]; exact c3), s D _ (by rw [off_ne Dp_]; exact c4), ⟨(c5.offR c2).same s, (c6.offR c2).same s, (c7.offR c2).same s⟩, (c8.offR c2).same s, (c9.offR c2).same s, (c10.offR c2).same s⟩
    replace c0 := (hC G).mpr c0
    have Rn : ∀ {G}, C G → Rng G p := fun c => ((hC _).mp c).2.1
    have Ll : ∀ {G}, C G → SqL K G l [.ref t0, .ref t1, .ref t2] := fun c => SqL.of ((hC _).mp c).2.2.1
    have Ld : ∀ {G}, C G → SqL K G D [.ref s0, .ref s1, .ref s2] := fun c => SqL.of ((hC _).mp c).2.2.2.1
    have A0 : ∀ {G}, C G → RowM G t0 m0 := fun c => ((hC _).mp c).2.2.2.2.1.1
    have A1 : ∀ {G}, C G → RowM G t1 m1 := fun c => ((hC _).mp c).2.2.2.2.1.2.1
    have A2 : ∀ {G}, C G → RowM G t2 m2 := fun c => ((hC _).mp c).2.2.2.2.1.2.2
    have B0 : ∀ {G}, C G → MovM K G s0 m0 := fun c => ((hC _).mp c).2.2.2.2.2.1
    have B1 : ∀ {G}, C G → MovM K G s1 m1 := fun c => ((hC _).mp c).2.2.2.2.2.2.1
    have B2 : ∀ {G}, C G → MovM K G s2 m2 := fun c => ((hC _).mp c).2.2.2.2.2.2.2
    have z : ∀ {n : Nat} {q : Rat}, Sz n q → (n ≤ 1000) → Sz 1000 q := fun h h' => h.mono h'
    have Z0 := thn_170 S0 S1
    have Z1 := thn_170 S1 S2
    -- the two, one behind the other
    refine ⟨_, rfl, l, _, _, .ref t0, rfl, rfl, Ll c0, rfl, _, rfl, l, _, _, .ref t1, rfl, rfl, Ll c0, rfl, t0, t1, m0, m1, rfl, A0 c0, A1 c0, fits0 S0 S1, fun td H2 k2 hd => ?_⟩
    have c2 := stS c0 k2
    obtain ⟨_, _, dx0, _, _, _, es0, _⟩ := id (B0 c2)
    refine ⟨_, rfl, D, _, _, .ref s0, rfl, rfl, Ld c2, rfl, s0, dx0, _, rfl, es0, rfl, _, rfl, D, _, _, .ref s1, rfl, rfl, Ld c2, rfl, s0, s1, m0.d, m1.d, m0.u, m0.lo, m0.hi, m1.u, m1.lo, m1.hi, rfl, B0 c2, B1 c2, su0, S1.u.mono (by decide), sl0, sh0, S1.lo.mono (by decide), S1.hi.mono (by decide), S0.sd.mono (by decide), S1.sd.mono (by decide), fun wh H3 k3 hw => ?_⟩
    replace hw : MovM K H3 wh (thn m0 m1) := hw
    have c3 := stS c2 k3
    have hd3 := hd.same k3
    refine ⟨_, rfl, _, rfl, wh, td, _, _, _, _, rfl, hw, hd3, Z0.u.mono (by decide), Z0.lo.mono (by decide), Z0.hi.mono (by decide), Z0.d.mono (by decide), fun H4 k4 => ⟨true, rfl, iteF ?_⟩⟩
    have c4 := stS c3 k4
    have hw4 := hw.same k4
    have hd4 := hd3.same k4
    clear c0 c2 c3 hw hd hd3 es0 k2 k3 k4
    -- the fractions
    refine ⟨_, rfl, _, rfl, l, _, _, .ref t0, rfl, rfl, Ll c4, rfl, p, t0, m0.d, m0.u, m0.lo, m0.hi, rfl, Rn c4, A0 c4, S0.d1, Int.le_trans S0.d2 (by decide), S0.u.mono (by decide), S0.lo.mono (by decide), S0.hi.mono (by decide), fun l0 ps0 H5 k5 R5 lp0 hl0 len0 hps0 => ?_⟩
    have c5 := stO c4 k5 R5
    refine ⟨_, rfl, _, rfl, l, _, _, .ref t1, rfl, rfl, Ll c5, rfl, p, t1, m1.d, m1.u, m1.lo, m1.hi, rfl, R5, A1 c5, S1.d1, Int.le_trans S1.d2 (by decide), S1.u.mono (by decide), S1.lo.mono (by decide), S1.hi.mono (by decide), fun l1 ps1 H6 k6 R6 lp1 hl1 len1 hps1 => ?_⟩
    have c6 := stO c5 k6 R6
    refine ⟨l0, l1, _, _, rfl, rfl, k6 l0 _ (by rw [off_ne lp0]; exact hl0), hl1, (by rw [sizeLine_eq]; omega), fun l01 n01 => ?_⟩
    have u7 := same_new (o := .lst (ps0 ++ ps1)) n01
    have hl01 : upd H6 l01 (.lst (ps0 ++ ps1)) l01 = some (.lst (ps0 ++ ps1)) := upd_same
    have lp01 := R6.ne_new n01
    have c7 := stS c6 u7
    have R7 := R6.same u7
    have hps01 : PartsAt (upd H6 l01 (.lst (ps0 ++ ps1))) 400 (ps0 ++ ps1) := fun v hv => by
      rcases List.mem_append.mp hv with hv | hv
      · exact (((hps0.offR R5).same k6).same u7) v hv
      · exact (hps1.same u7) v hv
    have hw7 := (((hw4.offR (Rn c4)).same k5).offR R5 |>.same k6).same u7
    have hd7 := (((hd4.offR (Rn c4)).same k5).offR R5 |>.same k6).same u7
    generalize upd H6 l01 (.lst (ps0 ++ ps1)) = H7 at *
    refine ⟨_, rfl, _, rfl, p, td, _, _, _, _, rfl, R7, hd7, Z0.d1, Z0.d2, Z0.u.mono (by decide), Z0.lo.mono (by decide), Z0.hi.mono (by decide), fun l2 ps2 H8 k8 R8 lp2 hl2 len2 hps2 => ?_⟩
    have c8 := stO c7 k8 R8
    refine ⟨l01, l2, _, _, rfl, rfl, k8 l01 _ (by rw [off_ne lp01]; exact hl01), hl2, (by rw [sizeLine_eq, List.length_append]; omega), fun l3 n3 => ?_⟩
    have u9 := same_new (o := .lst (ps0 ++ ps1 ++ ps2)) n3
    have hl3 : upd H8 l3 (.lst (ps0 ++ ps1 ++ ps2)) l3 = some (.lst (ps0 ++ ps1 ++ ps2)) := upd_same
    have lp3 := R8.ne_new n3
    have c9 := stS c8 u9
    have hps9 : PartsAt (upd H8 l3 (.lst (ps0 ++ ps1 ++ ps2))) 400 (ps0 ++ ps1 ++ ps2) := fun v hv => by
      rcases List.mem_append.mp hv with hv | hv
      · exact (((hps01.offR R7).same k8).same u9) v hv
      · exact (hps2.same u9) v hv
    have hw9 := ((hw7.offR R7).same k8).same u9
    have hd9 := ((hd7.offR R7).same k8).same u9
    generalize upd H8 l3 (.lst (ps0 ++ ps1 ++ ps2)) = H9 at *
    generalize ps0 ++ ps1 ++ ps2 = ps at *
    clear u9 n3 c8 hl2 hps2 k8 R8 c7 hps01 hl01 u7 n01 c6 c5 hl0 hl1 hps0 hps1 k5 k6 R5 R6 R7 hw7 hd7 hw4 hd4 c4
    refine ⟨l3, rfl, ⟨_, SqL.of hl3⟩, ?_⟩
    have R9 := Rn c9
    refine for_list (K := K) (a := l3) (xs := ps) (fun i z G' => Same (off H9 p) G' ∧ Rng G' p ∧ ∃ v5, z = [some (.ref p), some (.ref l), some (.ref D), some (.ref td), some (.ref wh), v5, none]) ?_ ?_ ?_ ?_
    · exact ⟨fun a o e => (off_some e).2, R9, none, rfl⟩
    · rintro i z G' _ ⟨k10, _⟩
      exact SqL.of (k10 l3 _ (by rw [off_ne lp3]; exact hl3))
    · rintro i x zz G' hx ⟨k10, R10, v5, rfl⟩
      have c10 := stO c9 k10 R10
      obtain ⟨y, v, rfl, hy, sy⟩ := ((hps9.offR R9).same k10) x (List.mem_of_getElem? hx)
      have hw10 := (hw9.offR R9).same k10
      obtain ⟨_, _, dxw, _, _, _, esw, _⟩ := id hw10
      refine ⟨_, rfl, wh, dxw, _, rfl, esw, rfl, _, rfl, _, rfl, p, y, v, rfl, R10, hy, sy.mono (by decide), fun xr G1 k11 R11 hxr => ?_⟩
      have c11 := stO c10 k11 R11
      refine ⟨wh, xr, _, _, _, _, v, rfl, (hw10.offR R10).same k11, hxr, Z0.u.mono (by decide), sy.mono (by decide), Z0.d.mono (by decide), Z0.lo.mono (by decide), Z0.hi.mono (by decide), fun ra G2 k12 hra => ?_⟩
      have c12 := stS c11 k12
      have hy12 := ((hy.offR R10).same k11).same k12
      have s1 : Sz 488 (m0.at_ v) := mAt_sz2 S0.d1 S0.u sy S0.sd S0.lo S0.hi (by decide)
      refine ⟨_, rfl, l, _, _, .ref t1, rfl, rfl, Ll c12, rfl, _, rfl, l, _, _, .ref t0, rfl, rfl, Ll c12, rfl, _, rfl, t0, y, m0.d, m0.u, m0.lo, m0.hi, v, rfl, A0 c12, hy12, S0.d1, ⟨80, 400, 7, S0.u, sy, S0.sd, by decide⟩, sl0, sh0, fun n1 G3 k13 hn1 => ?_⟩
      have c13 := stS c12 k13
      refine ⟨t1, n1, m1.d, m1.u, m1.lo, m1.hi, _, rfl, A1 c13, hn1, S1.d1, ⟨80, 488, 7, S1.u, s1, S1.sd, by decide⟩, S1.lo.mono (by decide), S1.hi.mono (by decide), fun n2 G4 k14 hn2 => ?_⟩
      have c14 := stS c13 k14
      have hra14 := (hra.same k13).same k14
      have e12 : mAt (thn m0 m1).d (thn m0 m1).u (thn m0 m1).lo (thn m0 m1).hi v = mAt m1.d m1.u m1.lo m1.hi (mAt m0.d m0.u m0.lo m0.hi v) := thn_at S0.good S1.good v
      rw [e12] at hra14
      have s2 : Sz 576 (mAt m1.d m1.u m1.lo m1.hi (mAt m0.d m0.u m0.lo m0.hi v)) := mAt_sz2 S1.d1 S1.u s1 S1.sd S1.lo S1.hi (by decide)
      refine ⟨ra, n2, _, rfl, hra14, hn2, s2.mono (by decide), fun G5 k15 => ⟨true, rfl, iteF ?_⟩⟩
      exact ⟨fun a o e => k15 a o (k14 a o (k13 a o (k12 a o (off_off k10 k11 a o e)))), Rn (stS c14 k15), _, rfl⟩
    rintro zz G' ⟨k10, R10, v5, rfl⟩
    have c10 := stO c9 k10 R10
    have hw10 := (hw9.offR R9).same k10
    have hd10 := (hd9.offR R9).same k10
    clear k10 hps9 hl3 hw9 hd9 c9 R9
    -- three, in either way
    obtain ⟨_, _, dxw, _, _, _, esw, _⟩ := id hw10
    refine ⟨_, rfl, wh, dxw, _, rfl, esw, rfl, _, rfl, D, _, _, .ref s2, rfl, rfl, Ld c10, rfl, wh, s2, (thn m0 m1).d, m2.d, (thn m0 m1).u, (thn m0 m1).lo, (thn m0 m1).hi, m2.u, m2.lo, m2.hi, rfl, hw10, B2 c10, Z0.u.mono (by decide), S2.u.mono (by decide), Z0.lo.mono (by decide), Z0.hi.mono (by decide), S2.lo.mono (by decide), S2.hi.mono (by decide), Z0.d.mono (by decide), S2.sd.mono (by decide), fun q1 G1 k11 hq1 => ?_⟩
    replace hq1 : MovM K G1 q1 (thn (thn m0 m1) m2) := hq1
    have c11 := stS c10 k11
    obtain ⟨_, _, dx0, _, _, _, es0, _⟩ := id (B0 c11)
    obtain ⟨_, _, dx1, _, _, _, es1, _⟩ := id (B1 c11)
    refine ⟨_, rfl, D, _, _, .ref s0, rfl, rfl, Ld c11, rfl, s0, dx0, _, rfl, es0, rfl, _, rfl, D, _, _, .ref s1, rfl, rfl, Ld c11, rfl, s1, dx1, _, rfl, es1, rfl, _, rfl, D, _, _, .ref s2, rfl, rfl, Ld c11, rfl, s1, s2, m1.d, m2.d, m1.u, m1.lo, m1.hi, m2.u, m2.lo, m2.hi, rfl, B1 c11, B2 c11, S1.u.mono (by decide), S2.u.mono (by decide), S1.lo.mono (by decide), S1.hi.mono (by decide), S2.lo.mono (by decide), S2.hi.mono (by decide), S1.sd.mono (by decide), S2.sd.mono (by decide), fun q2 G2 k12 hq2 => ?_⟩
    replace hq2 : MovM K G2 q2 (thn m1 m2) := hq2
    have c12 := stS c11 k12
    refine ⟨s0, q2, m0.d, (thn m1 m2).d, m0.u, m0.lo, m0.hi, (thn m1 m2).u, (thn m1 m2).lo, (thn m1 m2).hi, rfl, B0 c12, hq2, su0, Z1.u.mono (by decide), sl0, sh0, Z1.lo.mono (by decide), Z1.hi.mono (by decide), S0.sd.mono (by decide), Z1.d.mono (by decide), fun q3 G3 k13 hq3 => ?_⟩
    replace hq3 : MovM K G3 q3 (thn m0 (thn m1 m2)) := hq3
    rw [← thn_assoc S0.good S1.good S2.good] at hq3
    have c13 := stS c12 k13
    refine ne_mov T ((hq1.same k12).same k13) hq3 ⟨_, rfl, ?_⟩
    rw [cMEq_self]
    refine iteF ?_
    -- by the law
    have hw13 := ((hw10.same k11).same k12).same k13
    have hd13 := ((hd10.same k11).same k12).same k13
    clear hq1 hq2 hq3 esw es0 es1
    obtain ⟨_, _, dxw, _, _, _, esw, _⟩ := id hw13
    refine ⟨_, rfl, wh, dxw, _, rfl, esw, rfl, _, rfl, D, _, _, .ref s2, rfl, rfl, Ld c13, rfl, wh, s2, (thn m0 m1).d, m2.d, (thn m0 m1).u, (thn m0 m1).lo, (thn m0 m1).hi, m2.u, m2.lo, m2.hi, rfl, hw13, B2 c13, Z0.u.mono (by decide), S2.u.mono (by decide), Z0.lo.mono (by decide), Z0.hi.mono (by decide), S2.lo.mono (by decide), S2.hi.mono (by decide), Z0.d.mono (by decide), S2.sd.mono (by decide), fun q1 G4 k14 hq1 => ?_⟩
    replace hq1 : MovM K G4 q1 (thn (thn m0 m1) m2) := hq1
    have c14 := stS c13 k14
    refine ⟨_, rfl, _, rfl, l, _, _, .ref t2, rfl, rfl, Ll c14, rfl, td, t2, thn m0 m1, m2, rfl, hd13.same k14, A2 c14, fits1 Z0 S2, fun q2 G5 k15 hq2 => ?_⟩
    have c15 := stS c14 k15
    have zu : Sz 263 (thn (thn m0 m1) m2).u := rAdd_sz2 Z0.u (rMul_sz2 S2.u Z0.d)
    have zl : Sz 256 (thn (thn m0 m1) m2).lo := mAt_sz2 S2.d1 S2.u Z0.lo S2.sd S2.lo S2.hi (by decide)
    have zh : Sz 256 (thn (thn m0 m1) m2).hi := mAt_sz2 S2.d1 S2.u Z0.hi S2.sd S2.lo S2.hi (by decide)
    have zd : Sz 21 ((thn (thn m0 m1) m2).d : Rat) := nat_sz (by
      show ((thn m0 m1).d * m2.d).natAbs < _
      rw [Int.natAbs_mul]
      have a := Nat.mul_lt_mul_of_lt_of_lt (sz_nat Z0.d) (sz_nat S2.sd)
      rw [← Nat.pow_add] at a
      exact a) (by decide)
    refine ⟨q1, q2, _, _, _, _, rfl, hq1.same k15, hq2, zu.mono (by decide), zl.mono (by decide), zh.mono (by decide), zd.mono (by decide), fun G6 k16 => ⟨true, rfl, iteT ?_⟩⟩
    have c16 := stS c15 k16
    refine ⟨_, rfl, D, _, _, .ref s0, rfl, rfl, Ld c16, rfl, _, rfl, l, _, _, .ref t0, rfl, rfl, Ll c16, rfl, s0, t0, m0.d, m0.u, m0.lo, m0.hi, rfl, B0 c16, A0 c16, S0.u.mono (by decide), S0.lo.mono (by decide), S0.hi.mono (by decide), S0.sd.mono (by decide), fun G7 k17 => ?_⟩
    have c17 := stS c16 k17
    exact k G7 ((hC _).mp c17).1 (Rn c17)
end
end K18
set_option maxHeartbeats 16000000
namespace K18
open PySem PySem.Spec PyProof.Rows L2 GL
abbrev sDoneR : Stmt := tp 42
theorem RatAt.noT {K : PySem.W.Frag} {H : Hp} {a : Addr} {q : Rat} (h : RatAt K H a q) : RatAt K (GL.noT H) a q := by
  obtain ⟨d, e⟩ := h
  exact ⟨d, noT_at e fun _ z => nomatch z⟩
theorem MovAt.noT {K : PySem.W.Frag} {H : Hp} {s : Addr} {d : Int} {u lo hi : Rat} (h : MovAt K H s d u lo hi) : MovAt K (GL.noT H) s d u lo hi := by
  obtain ⟨l, m, dx, a, b, c, e, ha, hb, hc⟩ := h
  exact ⟨l, m, dx, a, b, c, noT_at e (fun _ z => nomatch z), ha.noT, hb.noT, hc.noT⟩
theorem PartAt.ext {H H' : Hp} {a : Addr} {q : Rat} (h : PartAt H a q) (k : LamX.ExtN H H') : PartAt H' a q := k _ _ h fun _ z => by cases z
theorem RowAt.ext {H H' : Hp} {t : Addr} {d : Int} {u lo hi : Rat} (h : RowAt H t d u lo hi) (k : LamX.ExtN H H') : RowAt H' t d u lo hi := by
  obtain ⟨a, b, c, e, ha, hb, hc⟩ := h
  exact ⟨a, b, c, k _ _ e (fun _ z => by cases z), ha.ext k, hb.ext k, hc.ext k⟩
theorem MovAt.ext {K : PySem.W.Frag} {H H' : Hp} {s : Addr} {d : Int} {u lo hi : Rat} (h : MovAt K H s d u lo hi) (k : LamX.ExtN H H') : MovAt K H' s d u lo hi := h.noT.same (extN_same k)
theorem Rng.ext {H H' : Hp} {p : Addr} (h : Rng H p) (k : LamX.ExtN H H') : Rng H' p := by
  obtain ⟨x, y, e, r⟩ := h
  exact ⟨x, y, k _ _ e (fun _ z => by cases z), r⟩
def manyD : PyData := .list [.str "many", .str "times", .int 100]
theorem manyDp {K : PySem.W.Frag} {H : Hp} {r : Addr} (e : H r = some (.lst [.str "many", .str "times", .int 100])) : Dp K H (.ref r) manyD := .lst (SqL.of e) (.cons (.str _) (.cons (.str _) (.cons (.int _) .nil)))
theorem eqv_many2 : PyData.eqv (.list [manyD, manyD]) (.list [manyD, manyD]) = true := by simp [manyD, PyData.eqv, PyData.eqvAll]
section
variable {P : Program} {w : World} {K : PySem.W.Frag} {mg : Str → Option Value} {base : Heap}
theorem tt_many {tl : XK → Hp → VK → Prop} {H : Hp} {Q : VK} (run : ∀ E H1 R, Same H H1 → outF (aTM K) fMany H1 E → tl E H1 R) (fin : ∀ r H3, Same H H3 → H3 r = some (.lst [.str "many", .str "times", .int 100]) → Q (.ref r) H3) : TT13 K tl H Q := .inr (.inr ⟨run, fin⟩)
theorem tt_count {tl : XK → Hp → VK → Prop} {H : Hp} {Q : VK} {v : V} {z : Str} (h : RepAt K H v z) (run : ∀ E H1 R, Same H H1 → outF (aIC K) [("value", v)] H1 E → tl E H1 R) (fin : ∀ r H3, Same H H3 → H3 r = some (.lst [.str "count", .str z]) → Q (.ref r) H3) : TT13 K tl H Q := .inr (.inl ⟨v, z, h, run, fin⟩)
theorem tt_move {tl : XK → Hp → VK → Prop} {H : Hp} {Q : VK} (x : Str) (run : ∀ E H1 R, Same H H1 → outF (aIM K) [("part", .str x)] H1 E → tl E H1 R) (fin : ∀ r H3, Same H H3 → H3 r = some (.lst [.str "move", .str x]) → Q (.ref r) H3) : TT13 K tl H Q := .inl ⟨x, run, fin⟩
abbrev lamD : Str := "_law_done_right.<locals>.<lambda>"
abbrev lamR : Str := "_law_refused_right.<locals>.<lambda>"
abbrev tbs (x y : Addr) : List (Addr × Str) := [(x, lamD), (y, lamR)]
structure LD (P : Program) (w : World) (K : PySem.W.Frag) (mg : Str → Option Value) (base : Heap) : Prop where
  L : LT P w K mg base
  Z : EF K mg
  RR : RepF P w K mg base
  D : DA P w K mg base
  told : ∃ f fd, Fun K "_law_told" "_law_told" sTold f fd ∧ mg "_law_told" = some (.ref f) ∧ Binds K fd ["_law_call"] []
  done : MetX P w K mg base (aM K) "done" 10 ["self", "times"] (spDone K)
  doneX : ∃ f fd, Meth K (aM K) "done" f ∧ FnOk P w K mg base (L2.CX P w) 4 f fd ["self", "times"] (spDoneX K) ∧ Binds K fd ["self", "times"] []
  rs : DefF P w K mg base "_law_raised" 4 ["_law_row", "_law_many"] (spRaisedL K)
/-! ### one move, done several times -/
def spDoneR (K : PySem.W.Frag) (tbd tbr : Addr) : Sp := fun vs H Q _ => ∃ (p t : Addr) (m : Mv), vs = [.ref p, .ref t] ∧ Rng H p ∧ RowM H t m ∧ S80 m ∧ LamX.Tabs (tbs tbd tbr) H ∧ ∀ H', LamX.ExtN (off H p) H' → Rng H' p → LamX.Tabs (tbs tbd tbr) H' → Q (.bl true) H'
abbrev nDoneR : List Str := ["_law_rng_here", "_law_row", "_law_made_here", "_law_due", "_law_many", "_law_turn", "_law_part", "_law_here", "_law_told_here", "_law_power", "_law_great"]
theorem scDoneR : FnScope nDoneR ["_law_rng_here", "_law_row"] (defScope sDoneR) := ⟨rfl, rfl, rfl, by decide +kernel, rfl, by decide +kernel, by decide +kernel⟩
theorem ok_doneR {f c tbd tbr : Addr} {fd : FuncData} (F : Fun K "_law_done_right" "_law_done_right" sDoneR f fd) (hc : fd.code = .ref c) (TB : LamX.TabB base mg c tbd) (ne : tbd ≠ tbr) (X : LD P w K mg base) : FnG P w K mg base CX0 11 f fd ["_law_rng_here", "_law_row"] (spDoneR K tbd tbr) := by
  have L := X.L
  obtain ⟨fT, fdT, FT, gT, bT⟩ := X.told
  obtain ⟨f1, fd1, m1, G1, b1⟩ := X.done
  obtain ⟨f2, fd2, m2, G2, b2⟩ := X.doneX
  obtain ⟨f3, fd3, m3, G3, b3⟩ := L.then_
  obtain ⟨f4, fd4, m4, G4, b4⟩ := L.Y.Z.N.at_
  obtain ⟨f5, oE, GE⟩ := L.eqM
  obtain ⟨fR, fdR, GR, gR, bR, kR⟩ := L.rl
  obtain ⟨fN, fdN, GN, gN, bN, kN⟩ := L.nr
  obtain ⟨fA, fdA, GA, gA, bA, kA⟩ := L.at_
  obtain ⟨fM, fdM, GM, gM, bM, kM⟩ := L.md
  obtain ⟨fH, fdH, GH, gH, bH, kH⟩ := L.th
  obtain ⟨fV, fdV, GV, gV, bV, kV⟩ := L.isM
  obtain ⟨fI, fdI, GI, gI, bI, kI⟩ := L.Y.is
  obtain ⟨fC, fdC, GC, gC, bC, kC⟩ := X.D.choice
  obtain ⟨fD, fdD, GD, gD, bD, kD⟩ := X.D.draw
  obtain ⟨fS, fdS, GS, gS, bS, kS⟩ := X.rs
  obtain ⟨p6, g6, fd6, P6, G6, b6⟩ := L.Y.gDiv
  have T := L.Y.Z.N.M.T
  have M := X.D.F
  have S := L.Y.Z.S
  obtain ⟨ocT, odT, kVT, docT, pmT, anT, cdT, ctT, oslT, rfl, lkT, hcT⟩ := FT.ex
  have kT := FT.kp
  obtain ⟨oc, od, kv, doc, pm, an, cdv, ct, osl, rfl, lk, hcd⟩ := F.ex
  obtain rfl : cdv = .ref c := hc
  refine FnG.ofBody lk hcd scDoneR (fun vs H Q E h => ?_) (fun A outer s H vs Q E gd hr h => ?_)
  · obtain ⟨p, t, m, rfl, _⟩ := h
    rfl
  · obtain ⟨p, t, m, rfl, R, ht, SS, tabs, k⟩ := h
    have hu := hr.units
    have r1 : Room 1 _ := hr.mono (by decide)
    have r2 : Room 2 _ := hr.mono (by decide)
    have r3 : Room 3 _ := hr.mono (by decide)
    have r4 : Room 4 _ := hr.mono (by decide)
    have r7 : Room 7 _ := hr.mono (by decide)
    have r8 : Room 8 _ := hr.mono (by decide)
    have one : ∀ x ∈ tbs tbd tbr, x.1 = tbd → x.2 = lamD := fun x hx e => by
      simp only [List.mem_cons, List.not_mem_nil, or_false] at hx
      rcases hx with rfl | rfl
      · rfl
      · exact absurd e.symm ne
    suffices z : ∃ y, PSs (cxOf CX0 P w K mg base nDoneR "_law_done_right" (defScope sDoneR) f (.ref c) A outer s H E).nox (defBody sDoneR) y ∧ y { nx := fun _ H' => Q .non H', rt := Q } (L2.start nDoneR [.ref p, .ref t]) H by
      obtain ⟨y, h, q⟩ := z
      exact ⟨y, h.nox, q⟩
    refine ⟨_, pss_cons (ps_asg (pe_tup (pa_cons (pe_call GM r8 rfl gM kM bM .nil pass0 (pa_cons (pv 0) (pa_cons (pv 1) pa_nil))) (pa_cons (pv 1) (pa_cons (pe_op op_add pe_int (pe_call GD r1 rfl gD kD bD .nil pass0 (pa_cons (pv 0) (pa_cons pe_int pa_nil)))) pa_nil)))) (pg_tup (by rfl) (pgs_cons (pg_name (i := 2) scDoneR.nd rfl (.inr rfl)) (pgs_cons (pg_name (i := 3) scDoneR.nd rfl (.inl rfl)) (pgs_cons (pg_name (i := 4) scDoneR.nd rfl (.inl rfl)) pgs_nil)))))
      (pss_cons (ps_for PassesOwn.never rfl (pi_range1 (by rfl) M.range (pa_cons (pe_op op_sub (pv 4) pe_int) pa_nil)) (pg_name (i := 5) scDoneR.nd rfl (Or.inl rfl)) (pss_one (ps_set (i := 3) scDoneR.nd rfl (Or.inl rfl) (pe_call GH r4 rfl gH kH bH .nil pass0 (pa_cons (pv 3) (pa_cons (pv 1) pa_nil))))))
      (pss_cons (ps_if (PW.pt (pw_or (pt_not (pt_val (pe_callG GV gd r4 rfl gV kV bV .nil pass0 (pa_cons (pe_meth (pv 2) T.cl m1 G1 hr b1 .nil pass0 (pa_cons (pv 4) pa_nil)) (pa_cons (pv 3) pa_nil))))) (pw_or1 (pt_not (pt_val (pe_callG GV gd r4 rfl gV kV bV .nil pass0 (pa_cons (pe_meth (pv 2) T.cl m1 G1 hr b1 .nil pass0 (pa_cons pe_int pa_nil)) (pa_cons (pv 1) pa_nil)))))))) (pss_one (ps_ret pe_bl)) pss_nil)
      (pss_cons (ps_set (i := 6) scDoneR.nd rfl (Or.inl rfl) (pe_call GC r2 rfl gC kC bC .nil pass0 (pa_cons (pv 0) (pa_cons (pe_call GN r4 rfl gN kN bN .nil pass0 (pa_cons (pv 0) (pa_cons (pv 1) pa_nil))) pa_nil))))
      (pss_cons (ps_set (i := 7) scDoneR.nd rfl (Or.inl rfl) (pv 6))
      (pss_cons (ps_for PassesOwn.never rfl (pi_range1 (by rfl) M.range (pa_cons (pv 4) pa_nil)) (pg_name (i := 5) scDoneR.nd rfl (Or.inl rfl)) (pss_one (ps_set (i := 7) scDoneR.nd rfl (Or.inl rfl) (pe_call GA r3 rfl gA kA bA .nil pass0 (pa_cons (pv 1) (pa_cons (pv 7) pa_nil))))))
      (pss_cons (ps_if (pt_not (pt_val (pe_callG GI gd r3 rfl gI kI bI .nil pass0 (pa_cons (pe_meth (pe_meth (pv 2) T.cl m1 G1 hr b1 .nil pass0 (pa_cons (pv 4) pa_nil)) T.cl m4 G4 r7 b4 .nil pass0 (pa_cons (pe_call GR r4 rfl gR kR bR .nil pass0 (pa_cons (pv 0) (pa_cons (pv 6) pa_nil))) pa_nil)) (pa_cons (pv 7) pa_nil))))) (pss_one (ps_ret pe_bl)) pss_nil)
      (pss_cons (ps_par (i := 3) (j := 4) (by rfl) scDoneR.nd rfl rfl (by decide) rfl rfl (pa_cons (pv 1) (pa_cons (pe_op op_add pe_int (pe_call GD r1 rfl gD kD bD .nil pass0 (pa_cons (pv 0) (pa_cons pe_int pa_nil)))) pa_nil)) (by rfl))
      (pss_cons (ps_for PassesOwn.never rfl (pi_range1 (by rfl) M.range (pa_cons (pe_op op_sub (pv 4) pe_int) pa_nil)) (pg_name (i := 5) scDoneR.nd rfl (Or.inl rfl)) (pss_one (ps_set (i := 3) scDoneR.nd rfl (Or.inl rfl) (pe_call GH r4 rfl gH kH bH .nil pass0 (pa_cons (pv 3) (pa_cons (pv 1) pa_nil))))))
      (pss_cons (ps_if (pt_not (pt_val (pe_callG GV gd r4 rfl gV kV bV .nil pass0 (pa_cons (pe_meth (pv 2) T.cl m1 G1 hr b1 .nil pass0 (pa_cons (pv 4) pa_nil)) (pa_cons (pv 3) pa_nil))))) (pss_one (ps_ret pe_bl)) pss_nil)
      (pss_cons (ps_if (pt_cmpR op_gt (pe_ix ix_tup (pv 1) pe_int (fun _ _ => rfl)) pe_int (nomark _)) (pss_cons (ps_par (i := 8) (j := 9) (by rfl) scDoneR.nd rfl rfl (by decide) rfl rfl (pa_cons (pe_lst (pa_cons (pe_told (T := tbs tbd tbr) (TT := TT13 K) (k := 5) rfl gT kT lkT hcT bT scTold rfl (.inl rfl) (told13 (k := 4) rfl X.Z S X.RR M.repr gd) TB rfl List.mem_cons_self one r7 (LamX.lamS_by (sc := defScope sDoneR) (by decide +kernel)) rfl (fun _ _ _ _ _ => rfl) (fun A outer s H E f c' hA hr5 => pe_meth (pv 2) T.cl m2 G2 (hr5.mono (by decide)) b2 .nil (passE (takes_of rfl rfl rfl rfl)) (pa_cons pe_int pa_nil))) (pa_cons (pe_told (T := tbs tbd tbr) (TT := TT13 K) (k := 5) rfl gT kT lkT hcT bT scTold rfl (.inl rfl) (told13 (k := 4) rfl X.Z S X.RR M.repr gd) TB rfl List.mem_cons_self one r7 (LamX.lamS_by (sc := defScope sDoneR) (by decide +kernel)) rfl (fun _ _ _ _ _ => rfl) (fun A outer s H E f c' hA hr5 => pe_meth (pv 2) T.cl m2 G2 (hr5.mono (by decide)) b2 .nil (passE (takes_of rfl rfl rfl rfl)) (pa_cons (pe_op op_pow pe_int pe_int) pa_nil))) pa_nil))) (pa_cons pe_int pa_nil)) (by rfl)) (pss_cons (ps_for PassesOwn.never rfl (pi_range1 (by rfl) M.range (pa_cons pe_int pa_nil)) (pg_name (i := 5) scDoneR.nd rfl (Or.inl rfl)) (pss_one (ps_set (i := 9) scDoneR.nd rfl (Or.inl rfl) (pe_op op_mulW (pv 9) (pe_ix ix_tup (pv 1) pe_int (fun _ _ => rfl)))))) (pss_one (ps_ret (pe_and (pe_cmpR (op_eqD hu) (pv 8) (pe_op op_rep (pe_lst (pa_cons (pe_lst (pa_cons pe_str (pa_cons pe_str (pa_cons pe_int pa_nil)))) pa_nil)) pe_int) (nomark _)) (pe_one (pe_cmpR op_eq (pe_prop (pe_meth (pv 2) T.cl m1 G1 hr b1 .nil pass0 (pa_cons pe_int pa_nil)) T.cl P6 G6 r2 b6 .nil pass0 rfl) (pv 9) (nomark _)))))))) pss_nil)
      (pss_cons (ps_set (i := 10) scDoneR.nd rfl (Or.inl rfl) (pe_call GC r2 rfl gC kC bC .nil pass0 (pa_cons (pv 0) (pa_cons (pe_lst (pa_cons pe_int (pa_cons pe_int (pa_cons (pe_op op_pow pe_int pe_int) (pa_cons (pe_op op_pow pe_int pe_int) (pa_cons (pe_op op_sub (pe_op op_pow pe_int pe_int) pe_int) (pa_cons (pe_op op_add pe_int (pe_call GD r1 rfl gD kD bD .nil pass0 (pa_cons (pv 0) (pa_cons (pe_op op_pow pe_int pe_int) pa_nil)))) pa_nil))))))) pa_nil))))
      (pss_cons (ps_if (pt_not (pt_val (pe_callG GV gd r4 rfl gV kV bV .nil pass0 (pa_cons (pe_meth (pv 2) T.cl m1 G1 hr b1 .nil pass0 (pa_cons (pv 10) pa_nil)) (pa_cons (pe_call GS r4 rfl gS kS bS .nil pass0 (pa_cons (pv 1) (pa_cons (pv 10) pa_nil))) pa_nil))))) (pss_one (ps_ret pe_bl)) pss_nil)
      (pss_one (ps_ret (pe_or (pe_cmpR op_eq (pv 10) (pe_op op_pow pe_int pe_int) (nomark _)) (pe_one (pe_cmpR (op_eqO oE GE r3 pass0) (pe_meth (pe_meth (pv 2) T.cl m1 G1 hr b1 .nil pass0 (pa_cons (pv 10) pa_nil)) T.cl m3 G3 r8 b3 .nil pass0 (pa_cons (pv 2) pa_nil)) (pe_meth (pv 2) T.cl m1 G1 hr b1 .nil pass0 (pa_cons (pe_op op_add (pv 10) pe_int) pa_nil)) (nomark _)))))))))))))))))), ?_⟩
    have d1 := SS.d1
    have d2 := SS.d2
    have su := SS.u
    have sl := SS.lo
    have sh := SS.hi
    have sd := SS.sd
    have su1 : Sz 1000 m.u := su.mono (by decide)
    have sl1 : Sz 1000 m.lo := sl.mono (by decide)
    have sh1 : Sz 1000 m.hi := sh.mono (by decide)
    refine ⟨_, rfl, _, rfl, p, t, m.d, m.u, m.lo, m.hi, rfl, R, ht, d1, SS.le, su1, sl1, sh1, fun s H1 k1 R1 hs => ?_⟩
    refine ⟨_, rfl, _, rfl, p, 7, rfl, R1, by decide, by decide, fun e H2 e0 e1 kp2 R2 => ⟨_, _, rfl, rfl, (by show 3 ≤ sizeLine; decide), fun tq nq => ?_⟩⟩
    have k2 := off_kp kp2
    have s3 := same_new (o := .tup [V.ref s, .ref t, .int (1 + e)]) nq
    have etq : upd H2 tq (.tup [V.ref s, .ref t, .int (1 + e)]) tq = some (.tup [V.ref s, .ref t, .int (1 + e)]) := upd_same
    obtain ⟨C, hC⟩ : ∃ C : Hp → Prop, ∀ G, C G ↔ (LamX.ExtN (off H p) G ∧ Rng G p ∧ RowM G t m ∧ MovM K G s m ∧ LamX.Tabs (tbs tbd tbr) G) := ⟨_, fun _ => Iff.rfl⟩
    have tO : ∀ {G G' : Hp}, LamX.Tabs (tbs tbd tbr) G → Rng G p → Same (off G p) G' → LamX.Tabs (tbs tbd tbr) G' := by
      intro G G' t R' s
      obtain ⟨x, y, ep, _⟩ := R'
      exact Tabs.same (Tabs.offP t ep) s
    have stE : ∀ {G G' : Hp}, C G → LamX.ExtN G G' → LamX.Tabs (tbs tbd tbr) G' → C G' := by
      intro G G' b e tt
      obtain ⟨x1, x2, x3, x4, _⟩ := (hC _).mp b
      exact (hC _).mpr ⟨x1.trans e, x2.ext e, x3.ext e, x4.ext e, tt⟩
    have stS : ∀ {G G' : Hp}, C G → Same G G' → C G' := fun b s => stE b (same_extN s) (Tabs.same ((hC _).mp b).2.2.2.2 s)
    have stO : ∀ {G G' : Hp}, C G → Same (off G p) G' → Rng G' p → C G' := by
      intro G G' b s R'
      obtain ⟨x1, x2, x3, x4, x5⟩ := (hC _).mp b
      exact (hC _).mpr ⟨fun a o e n => s a o (by rw [off_ne (off_some e).1]; exact x1 a o e n), R', (x3.offR x2).same s, (x4.offR x2).same s, tO x5 x2 s⟩
    have c0 : C (upd H2 tq (.tup [V.ref s, .ref t, .int (1 + e)])) := by
      have k12 := off_off k1 k2
      exact (hC _).mpr ⟨same_extN fun a o z => s3 a o (k12 a o z), R2.same s3, ((ht.offR R).same k12).same s3, ((hs.offR R1).same k2).same s3, Tabs.same (tO tabs R k12) s3⟩
    generalize upd H2 tq (.tup [V.ref s, .ref t, .int (1 + e)]) = G0 at *
    refine ⟨tq, _, rfl, SqT.of etq, rfl, _, _, rfl, _, _, rfl, _, _, rfl, rfl, ?_⟩
    clear etq s3 nq k2 kp2 R2 hs R1 k1
    have Rn : ∀ {G}, C G → Rng G p := fun c => ((hC _).mp c).2.1
    have A : ∀ {G}, C G → RowM G t m := fun c => ((hC _).mp c).2.2.1
    have B : ∀ {G}, C G → MovM K G s m := fun c => ((hC _).mp c).2.2.2.1
    have Tb : ∀ {G}, C G → LamX.Tabs (tbs tbd tbr) G := fun c => ((hC _).mp c).2.2.2.2
    have dn : ∀ {G : Hp} {n : Int} {Q : Addr → Hp → Prop}, C G → 1 ≤ n → n ≤ 100 → (∀ q G', Same G G' → MovM K G' q (pw m (n - 1).toNat) → Q q G') → MovM K G s m ∧ S80 m ∧ 1 ≤ n ∧ ((1 < m.d ∧ n ≤ 100 ∧ ∀ p H', Same G H' → MovM K H' p (pw m (n - 1).toNat) → Q p H') ∨ (m.d = 1 ∧ n ≤ 10 ^ 30 ∧ ∀ p H', Same G H' → MovM K H' p (rsd m n) → Q p H')) := by
      intro G n Q c n1 n2 h
      refine ⟨B c, SS, n1, ?_⟩
      by_cases g : m.d = 1
      · refine .inr ⟨g, Int.le_trans n2 (by decide), fun q G' k' hq => h q G' k' ?_⟩
        rw [pw_rsd g SS.good, show ((((n - 1).toNat : Nat) : Int) + 1) = n from by omega]
        exact hq
      · exact .inl ⟨by omega, n2, h⟩
    have zu : ∀ {i : Nat}, i ≤ 99 → Sz 1000 (pw m i).u := fun h => (pw_szu SS _).mono (by omega)
    have zl : ∀ {i : Nat}, i ≤ 99 → Sz 1000 (pw m i).lo := fun h => (pw_szl SS _).mono (by omega)
    have zh : ∀ {i : Nat}, i ≤ 99 → Sz 1000 (pw m i).hi := fun h => (pw_szh SS _).mono (by omega)
    have zd : ∀ {i : Nat}, i ≤ 99 → Sz 1000 ((pw m i).d : Rat) := fun h => (pw_szd SS _).mono (by omega)
    -- some times
    refine ⟨_, rfl, _, _, rfl, rfl, 1 + e - 1, rfl, by omega, by omega, ?_⟩
    have en : (1 + e - 1).toNat ≤ 6 := by omega
    refine for_range (lo := 0) (n := (1 + e - 1).toNat) (fun i z G => Same G0 G ∧ ∃ d v5, z = [some (.ref p), some (.ref t), some (.ref s), some (.ref d), some (.int (1 + e)), v5, none, none, none, none, none] ∧ RowM G d (pw m i)) ?_ ?_ ?_
    · exact ⟨fun _ _ e => e, t, none, rfl, A c0⟩
    · rintro i z G hi ⟨k5, d, v5, rfl, hd⟩
      refine ⟨_, rfl, _, rfl, d, t, pw m i, m, rfl, hd, A (stS c0 k5), pw_fits SS (by omega), fun d' G' k6 hd' => ?_⟩
      exact ⟨k5.trans k6, d', _, rfl, hd'⟩
    rintro z G1 ⟨k5, du, v5, rfl, hdu⟩
    have c1 := stS c0 k5
    clear k5 c0
    obtain ⟨_, _, dx, _, _, _, es, _⟩ := id (B c1)
    refine ⟨_, rfl, s, dx, _, rfl, es, rfl, _, rfl, s, m, 1 + e, rfl, ?_⟩
    refine dn (n := 1 + e) c1 (by omega) (by omega) fun q G2 k6 hq => ?_
    have e99 : (1 + e - 1).toNat ≤ 99 := by omega
    refine ⟨_, rfl, q, du, _, _, _, _, rfl, hq, hdu.same k6, (zu e99).mono (by decide), (zl e99).mono (by decide), (zh e99).mono (by decide), zd e99, fun G3 k7 => ⟨true, rfl, iteF ?_⟩⟩
    have c3 := stS c1 (k6.trans k7)
    clear hq hdu es k6 k7 c1
    obtain ⟨_, _, dx, _, _, _, es, _⟩ := id (B c3)
    refine ⟨_, rfl, s, dx, _, rfl, es, rfl, s, m, 1, rfl, ?_⟩
    refine dn (n := 1) c3 (by decide) (by decide) fun q G4 k8 hq => ?_
    replace hq : MovM K G4 q m := hq
    refine ⟨_, rfl, q, t, _, _, _, _, rfl, hq, A (stS c3 k8), su.mono (by decide), sl.mono (by decide), sh.mono (by decide), sd.mono (by decide), fun G5 k9 => ⟨true, rfl, iteF ?_⟩⟩
    have c5 := stS c3 (k8.trans k9)
    clear hq es k8 k9 c3
    -- at a fraction
    refine ⟨_, rfl, _, rfl, _, rfl, p, t, m.d, m.u, m.lo, m.hi, rfl, Rn c5, A c5, d1, Int.le_trans d2 (by decide), su.mono (by decide), sl.mono (by decide), sh.mono (by decide), fun l xs G6 k10 R10 lp hl lx hps => ?_⟩
    have c6 := stO c5 k10 R10
    refine ⟨p, l, xs, rfl, R10, hl, lp, by omega, by omega, fun v G7 mv kp R11 => ?_⟩
    obtain ⟨a, x, rfl, ha, sx⟩ := hps _ mv
    have k11 := off_kp kp
    have ha7 := (ha.offR R10).same k11
    have c7 := stO c6 k11 R11
    clear ha hps hl mv kp k11 c6 R11 k10 R10 c5
    refine ⟨_, rfl, ?_⟩
    refine ⟨_, rfl, 1 + e, rfl, by omega, by omega, ?_⟩
    refine for_range (lo := 0) (n := (1 + e).toNat) (fun i z G => Same G7 G ∧ ∃ h v5, z = [some (.ref p), some (.ref t), some (.ref s), some (.ref du), some (.int (1 + e)), v5, some (.ref a), some (.ref h), none, none, none] ∧ PartAt G h (itr m i x)) ?_ ?_ ?_
    · exact ⟨fun _ _ e => e, a, _, rfl, ha7⟩
    · rintro i z G hi ⟨k12, h, v5', rfl, hh⟩
      have sh_ : Sz 530 (itr m i x) := (orb_sz (a := 400) d1 d2 su (sl.mono (by decide)) (sh.mono (by decide)) sx (itr_orb d1 d2 x i)).mono (by omega)
      refine ⟨_, rfl, _, rfl, t, h, m.d, m.u, m.lo, m.hi, _, rfl, A (stS c7 k12), hh, d1, ⟨80, 530, 7, su, sh_, sd, by decide⟩, sl1, sh1, fun h' G' k13 hh' => ?_⟩
      exact ⟨k12.trans k13, h', _, rfl, hh'⟩
    rintro z G8 ⟨k12, h, v5', rfl, hh⟩
    have c8 := stS c7 k12
    have ha8 := ha7.same k12
    clear k12 c7 ha7
    obtain ⟨_, _, dx, _, _, _, es, _⟩ := id (B c8)
    refine ⟨_, rfl, s, dx, _, rfl, es, rfl, _, rfl, s, m, 1 + e, rfl, ?_⟩
    refine dn (n := 1 + e) c8 (by omega) (by omega) fun q G9 k13 hq => ?_
    obtain ⟨_, _, dxq, _, _, _, esq, _⟩ := id hq
    have c9 := stS c8 k13
    refine ⟨q, dxq, _, rfl, esq, rfl, _, rfl, _, rfl, p, a, x, rfl, Rn c9, ha8.same k13, sx.mono (by decide), fun xr G10 k14 R14 hxr => ?_⟩
    have c10 := stO c9 k14 R14
    refine ⟨q, xr, _, _, _, _, x, rfl, (hq.offR (Rn c9)).same k14, hxr, zu e99, sx.mono (by decide), zd e99, (zl e99).mono (by decide), (zh e99).mono (by decide), fun ra G11 k15 hra => ?_⟩
    have c11 := stS c10 k15
    have hh11 := (((hh.same k13).offR (Rn c9)).same k14).same k15
    have epw : mAt (pw m (1 + e - 1).toNat).d (pw m (1 + e - 1).toNat).u (pw m (1 + e - 1).toNat).lo (pw m (1 + e - 1).toNat).hi x = itr m (1 + e).toNat x := by
      have z := pw_at SS.good x (1 + e - 1).toNat
      rw [show (1 + e - 1).toNat + 1 = (1 + e).toNat from by omega] at z
      exact z
    rw [epw] at hra
    have sI : Sz 1900 (itr m (1 + e).toNat x) := (orb_sz (a := 400) d1 d2 su (sl.mono (by decide)) (sh.mono (by decide)) sx (itr_orb d1 d2 x _)).mono (by omega)
    refine ⟨_, rfl, ra, h, _, rfl, hra, hh11, sI, fun G12 k16 => ⟨true, rfl, iteF ?_⟩⟩
    have c12 := stS c11 k16
    clear k16 hh11 hra hxr k15 k14 R14 c11 c10 c9 hq esq es k13 hh ha8 c8
    -- many times
    refine ⟨_, rfl, _, rfl, p, 93, rfl, Rn c12, by decide, by decide, fun e' G13 f0 f1 kp R13 => ⟨_, _, rfl, rfl, _, _, rfl, ?_⟩⟩
    have c13 := stO c12 (off_kp kp) R13
    clear kp R13 c12
    refine ⟨_, rfl, _, _, rfl, rfl, 8 + e' - 1, rfl, by omega, by omega, ?_⟩
    refine for_range (lo := 0) (n := (8 + e' - 1).toNat) (fun i z G => Same G13 G ∧ ∃ d v5, z = [some (.ref p), some (.ref t), some (.ref s), some (.ref d), some (.int (8 + e')), v5, some (.ref a), some (.ref h), none, none, none] ∧ RowM G d (pw m i)) ?_ ?_ ?_
    · exact ⟨fun _ _ e => e, t, _, rfl, A c13⟩
    · rintro i z G hi ⟨k5, d, v5, rfl, hd⟩
      refine ⟨_, rfl, _, rfl, d, t, pw m i, m, rfl, hd, A (stS c13 k5), pw_fits SS (by omega), fun d' G' k6 hd' => ?_⟩
      exact ⟨k5.trans k6, d', _, rfl, hd'⟩
    rintro z G14 ⟨k5, dv, v5'', rfl, hdv⟩
    have c14 := stS c13 k5
    clear k5 c13
    obtain ⟨_, _, dx, _, _, _, es, _⟩ := id (B c14)
    refine ⟨_, rfl, s, dx, _, rfl, es, rfl, _, rfl, s, m, 8 + e', rfl, ?_⟩
    refine dn (n := 8 + e') c14 (by omega) (by omega) fun q G15 k6 hq => ?_
    have f99 : (8 + e' - 1).toNat ≤ 99 := by omega
    refine ⟨_, rfl, q, dv, _, _, _, _, rfl, hq, hdv.same k6, (zu f99).mono (by decide), (zl f99).mono (by decide), (zh f99).mono (by decide), zd f99, fun G16 k7 => ⟨true, rfl, iteF ?_⟩⟩
    have c16 := stS c14 (k6.trans k7)
    clear hq hdv es k6 k7 c14
    obtain ⟨a0, b0, c0', et, hu0, hl0, hh0⟩ := id (A c16)
    refine ⟨_, rfl, t, _, _, _, rfl, rfl, SqT.of et, rfl, _, _, rfl, rfl, _, rfl, ?_⟩
    refine ite2 (fun g => ?_) (fun g => ?_)
    · have gd1 : 1 < m.d := by
        have z := of_decide_eq_true g
        omega
      refine ⟨Tb c16, fun G17 x1 t1 => ?_⟩
      have w1 := stE c16 x1 t1
      refine tt_many (fun E H1 R s' o => ?_) (fun ra G18 s2 e2 => ?_)
      · have hmz := B (stS w1 s')
        obtain ⟨_, _, dx, _, _, _, es, _⟩ := id hmz
        exact ⟨_, rfl, s, dx, _, rfl, es, rfl, s, m, .int 101, rfl, hmz, .inr ⟨101, rfl, gd1, by decide, o⟩⟩
      have w2 := stS w1 s2
      refine ⟨Tb w2, fun G19 x3 t3 => ?_⟩
      have w3 := stE w2 x3 t3
      have e3 := x3 _ _ e2 fun _ z => by cases z
      refine tt_many (fun E H1 R s' o => ?_) (fun rb G20 s4 e4 => ⟨(by show 2 ≤ sizeLine; decide), fun W1 nW => ⟨_, _, rfl, ?_⟩⟩)
      · have hmz := B (stS w3 s')
        obtain ⟨_, _, dx, _, _, _, es, _⟩ := id hmz
        exact ⟨_, rfl, s, dx, _, rfl, es, rfl, _, _, rfl, rfl, ⟨by decide, by decide, by decide⟩, s, m, _, rfl, hmz, .inr ⟨_, rfl, gd1, by decide, o⟩⟩
      have w4 := stS w3 s4
      have s5 := same_new (o := .lst [V.ref ra, .ref rb]) nW
      have eW : upd G20 W1 (.lst [V.ref ra, .ref rb]) W1 = some (.lst [V.ref ra, .ref rb]) := upd_same
      have w5 := stS w4 s5
      have ea := s5 _ _ (s4 _ _ e3)
      have eb := s5 _ _ e4
      generalize upd G20 W1 (.lst [V.ref ra, .ref rb]) = G21 at *
      clear x1 t1 w1 s2 e2 x3 t3 w3 e3 s4 e4 nW w4 s5 w2
      refine ⟨100, rfl, by decide, by decide, ?_⟩
      refine for_range (lo := 0) (n := (100 : Int).toNat) (fun i z G => G = G21 ∧ ∃ v5 w, z = [some (.ref p), some (.ref t), some (.ref s), some (.ref dv), some (.int (8 + e')), v5, some (.ref a), some (.ref h), some (.ref W1), some (.int w), none] ∧ w = m.d ^ i) ?_ ?_ ?_
      · exact ⟨rfl, _, 1, rfl, (Int.pow_zero _).symm⟩
      · rintro i z G hi ⟨rfl, v6, w, rfl, rfl⟩
        obtain ⟨_, _, _, et5, _⟩ := id (A w5)
        have b := (pow_bd d1 d2 i).2
        have b' : (m.d ^ i).natAbs < 2 ^ (7 * i + 1) := by
          rw [Nat.pow_succ]
          have : 0 < 2 ^ (7 * i) := Nat.pow_pos (by decide)
          omega
        have i100 : i < 100 := hi
        refine ⟨_, rfl, _, rfl, t, _, _, _, rfl, rfl, SqT.of et5, rfl, _, _, rfl, rfl, wide_mul (a := 7 * i + 1) (b := 7) b' (sz_nat sd) (by omega) (by decide) (by omega), ?_⟩
        exact ⟨rfl, _, _, rfl, (Int.pow_succ _ _).symm⟩
      rintro z G ⟨rfl, v6, w, rfl, rfl⟩
      refine ⟨_, rfl, (by show 3 ≤ sizeLine; decide), fun i1 n1 => ?_⟩
      have s8 := same_new (o := .lst [V.str "many", .str "times", .int 100]) n1
      have e8 : upd G i1 (.lst [V.str "many", .str "times", .int 100]) i1 = some (.lst [V.str "many", .str "times", .int 100]) := upd_same
      generalize upd G i1 (.lst [V.str "many", .str "times", .int 100]) = G22 at *
      refine ⟨(by show 1 ≤ sizeLine; decide), fun i2 n2 => ⟨i2, _, _, rfl, rfl, upd_same, by decide, by decide, by show 1 * 2 ≤ sizeLine; decide, fun i3 n3 => ?_⟩⟩
      have s9 := (same_new (o := .lst [V.ref i1]) n2).trans (same_new (o := .lst (List.replicate (2 : Int).toNat [V.ref i1]).flatten) n3)
      have e9 : upd (upd G22 i2 (.lst [V.ref i1])) i3 (.lst (List.replicate (2 : Int).toNat [V.ref i1]).flatten) i3 = some (.lst [V.ref i1, .ref i1]) := upd_same
      have s79 := s8.trans s9
      have w9 := stS w5 s79
      have eW9 := s79 _ _ eW
      have ea9 := s79 _ _ ea
      have eb9 := s79 _ _ eb
      have e89 := s9 _ _ e8
      generalize upd (upd G22 i2 (.lst [V.ref i1])) i3 (.lst (List.replicate (2 : Int).toNat [V.ref i1]).flatten) = G23 at *
      refine ⟨_, _, .lst (SqL.of eW9) (.cons (manyDp ea9) (.cons (manyDp eb9) .nil)), .lst (SqL.of e9) (.cons (manyDp e89) (.cons (manyDp e89) .nil)), by decide +kernel, by decide +kernel, _, rfl, ?_⟩
      rw [eqv_many2]
      refine iteT ?_
      obtain ⟨_, _, dx, _, _, _, es, _⟩ := id (B w9)
      refine ⟨_, rfl, s, dx, _, rfl, es, rfl, s, m, 100, rfl, ?_⟩
      refine dn (n := 100) w9 (by decide) (by decide) fun q G24 k10 hq => ?_
      obtain ⟨_, _, dxq, _, _, _, esq, _⟩ := id hq
      have w10 := stS w9 k10
      refine ⟨q, dxq, _, rfl, esq, q, _, _, _, _, rfl, hq, _, rfl, rfl, ?_⟩
      rw [pw_d, show (100 - 1 : Int).toNat + 1 = (100 : Int).toNat from rfl, decide_eq_true rfl]
      exact k G24 ((hC _).mp w10).1 (Rn w10) (Tb w10)
    · have g1 : m.d = 1 := by
        by_cases z : 1 < m.d
        · exact absurd (decide_eq_true z) g
        · omega
      refine ⟨_, rfl, _, _, rfl, rfl, ⟨by decide, by decide, by decide⟩, _, _, rfl, rfl, ⟨by decide, by decide, by decide⟩, _, _, rfl, rfl, ⟨by decide, by decide, by decide⟩, _, _, rfl, rfl, _, rfl, _, _, rfl, rfl, ⟨by decide, by decide, by decide⟩, ?_⟩
      refine ⟨p, _, rfl, Rn c16, by decide, by decide, fun e2 G17 g0 g2 kp R17 => ⟨_, _, rfl, rfl, (by show 6 ≤ sizeLine; decide), fun lg ng => ?_⟩⟩
      have c17 := stO c16 (off_kp kp) R17
      have u18 := same_new (o := .lst [V.int 2, .int 101, .int (10 ^ (6 : Int).toNat), .int (10 ^ (30 : Int).toNat), .int (10 ^ (30 : Int).toNat - 1), .int (1 + e2)]) ng
      have c18 := stS c17 u18
      refine ⟨p, lg, _, rfl, Rn c18, upd_same, R17.ne_new ng, by show 0 < 6; decide, by show 6 < 1000; decide, fun v G19 mv kp2 R19 => ?_⟩
      have c19 := stO c18 (off_kp kp2) R19
      obtain ⟨n, rfl, n1, n2⟩ : ∃ n : Int, v = .int n ∧ 1 ≤ n ∧ n ≤ 10 ^ 30 := by
        have b1 : (10 : Int) ^ (9 : Int).toNat = 1000000000 := by decide
        have b2 : (10 : Int) ^ 30 = 1000000000000000000000000000000 := by decide
        rw [b1] at g2
        simp only [List.mem_cons, List.not_mem_nil, or_false] at mv
        rcases mv with rfl | rfl | rfl | rfl | rfl | rfl
        · exact ⟨_, rfl, by decide, by decide⟩
        · exact ⟨_, rfl, by decide, by decide⟩
        · exact ⟨_, rfl, by decide, by decide⟩
        · exact ⟨_, rfl, by decide, by decide⟩
        · exact ⟨_, rfl, by decide, by decide⟩
        · exact ⟨_, rfl, by omega, by omega⟩
      clear mv kp2 R19 c18 u18 ng kp R17 c17 g0 g2 hu0 hl0 hh0 et c16
      have sn : ∀ {i : Int}, 0 ≤ i → i ≤ 10 ^ 30 → Sz 100 (i : Rat) := fun {i} h1 h2 => nat_sz (by
        have e : (2 : Nat) ^ 100 = 1267650600228229401496703205376 := by decide
        have e2 : (10 : Int) ^ 30 = 1000000000000000000000000000000 := by decide
        omega) (by decide)
      have ru : Sz 180 (rsd m n).u := rMul_sz2 su (sn (by omega) n2)
      have rl : Sz 261 (rsd m n).lo := cHeld_sz (sl.mono (by decide)) (sh.mono (by decide)) ((rAdd_sz2 sl (rMul_sz2 su (sn (i := n - 1) (by omega) (by omega)))).mono (by decide))
      have rh : Sz 261 (rsd m n).hi := cHeld_sz (sl.mono (by decide)) (sh.mono (by decide)) ((rAdd_sz2 sh (rMul_sz2 su (sn (i := n - 1) (by omega) (by omega)))).mono (by decide))
      have rd : Sz 7 ((rsd m n).d : Rat) := ⟨by show ((1 : Int) : Rat).num.natAbs < _; decide, by show ((1 : Int) : Rat).den < _; decide⟩
      obtain ⟨_, _, dx, _, _, _, es, _⟩ := id (B c19)
      refine ⟨_, rfl, s, dx, _, rfl, es, rfl, _, rfl, s, m, n, rfl, B c19, SS, n1, .inr ⟨g1, n2, fun q G20 k20 hq => ?_⟩⟩
      have c20 := stS c19 k20
      refine ⟨_, rfl, _, rfl, t, m, n, rfl, A c20, g1, su, sl, sh, n1, n2, fun d' G21 k21 hd' => ?_⟩
      have c21 := stS c20 k21
      refine ⟨q, d', _, _, _, _, rfl, hq.same k21, hd', ru.mono (by decide), rl.mono (by decide), rh.mono (by decide), rd.mono (by decide), fun G22 k22 => ⟨true, rfl, iteF ?_⟩⟩
      have c22 := stS c21 k22
      clear hq hd' k20 k21 k22 es c19 c20 c21
      refine ⟨_, rfl, _, _, rfl, rfl, ⟨by decide, by decide, by decide⟩, rfl, _, rfl, ?_⟩
      by_cases en3 : n = 10 ^ (30 : Int).toNat
      · rw [decide_eq_true (by rw [en3])]
        exact iteT (k G22 ((hC _).mp c22).1 (Rn c22) (Tb c22))
      · rw [decide_eq_false (fun z => en3 (by injection z))]
        refine iteF ?_
        have n3 : n + 1 ≤ 10 ^ 30 := by
          have e3 : (10 : Int) ^ (30 : Int).toNat = 10 ^ 30 := rfl
          rw [e3] at en3
          omega
        obtain ⟨_, _, dx, _, _, _, es, _⟩ := id (B c22)
        refine ⟨_, rfl, s, dx, _, rfl, es, rfl, _, rfl, s, m, n, rfl, B c22, SS, n1, .inr ⟨g1, n2, fun q G23 k23 hq => ?_⟩⟩
        have c23 := stS c22 k23
        obtain ⟨_, _, dxq, _, _, _, esq, _⟩ := id hq
        refine ⟨q, dxq, _, rfl, esq, rfl, _, rfl, q, s, (rsd m n).d, m.d, (rsd m n).u, (rsd m n).lo, (rsd m n).hi, m.u, m.lo, m.hi, rfl, hq, B c23, ru.mono (by decide), su1, rl.mono (by decide), rh.mono (by decide), sl1, sh1, rd.mono (by decide), sd.mono (by decide), fun r G24 k24 hr_ => ?_⟩
        replace hr_ : MovM K G24 r (thn (rsd m n) m) := hr_
        rw [rsd_succ g1 SS.good n1] at hr_
        have c24 := stS c23 k24
        obtain ⟨_, _, dy, _, _, _, ey, _⟩ := id (B c24)
        refine ⟨_, rfl, s, dy, _, rfl, ey, rfl, _, rfl, _, _, rfl, rfl, s, m, n + 1, rfl, B c24, SS, by omega, .inr ⟨g1, n3, fun q2 G25 k25 hq2 => ?_⟩⟩
        have c25 := stS c24 k25
        refine eq_mov T (hr_.same k25) hq2 ?_
        rw [cMEq_self]
        exact k G25 ((hC _).mp c25).1 (Rn c25) (Tb c25)
end
end K18
set_option maxHeartbeats 16000000
namespace K18
open PySem PySem.Spec PyProof.Rows L2 GL
abbrev sRefused : Stmt := tp 43
/-- which classes the odd things are not of -/
structure NA (K : PySem.W.Frag) : Prop where
  m : ∀ n ∈ (["NoneType", "str", "list", "tuple", "dict", "int"] : List String), PySem.W.kitOne K (.type n) (.ref (aM K)) = some false
/-- what stands there, and how it is shown -/
inductive OddO : HO → PyData → Prop
  | l : OddO (.lst []) (.list [])
  | t : OddO (.tup [.int 1]) (.tuple [.int 1])
  | d : OddO (.dK []) (.dict [])
inductive OddF : V → PyData → Prop
  | non : OddF .non .none
  | bl (b : Bool) : OddF (.bl b) (.bool b)
  | z : OddF (.int 0) (.int 0)
  | m : OddF (.int (-1)) (.int (-1))
  | s : OddF (.str "1") (.str "1")
theorem OddO.noTbl {o : HO} {pd : PyData} (h : OddO o pd) (x) : o ≠ .tbl x := by cases h <;> exact fun z => nomatch z
/-- what is no count -/
def Odd (K : PySem.W.Frag) (p : Addr) (H : Hp) (v : V) (z : Str) : Prop := (∃ pd, OddF v pd ∧ z = pd.shown) ∨ (∃ a o pd, v = .ref a ∧ a ≠ p ∧ H a = some o ∧ OddO o pd ∧ z = pd.shown) ∨ ∃ a q, v = .ref a ∧ RatAt K H a q ∧ (q = 1 ∨ q = 2) ∧ z = reprQ q
theorem Odd.ext {K : PySem.W.Frag} {p : Addr} {H H' : Hp} {v : V} {z : Str} (h : Odd K p H v z) (k : LamX.ExtN H H') : Odd K p H' v z := by
  rcases h with h | ⟨a, o, pd, e, n, h, c, r⟩ | ⟨a, q, e, h, r⟩
  · exact .inl h
  · exact .inr (.inl ⟨a, o, pd, e, n, k _ _ h fun x => c.noTbl x, c, r⟩)
  · exact .inr (.inr ⟨a, q, e, h.noT.same (extN_same k), r⟩)
theorem Odd.offp {K : PySem.W.Frag} {p : Addr} {H : Hp} {v : V} {z : Str} (h : Odd K p H v z) (R : Rng H p) : Odd K p (GL.off H p) v z := by
  rcases h with h | ⟨a, o, pd, e, n, h, c, r⟩ | ⟨a, q, e, h, r⟩
  · exact .inl h
  · exact .inr (.inl ⟨a, o, pd, e, n, by rw [off_ne n]; exact h, c, r⟩)
  · exact .inr (.inr ⟨a, q, e, h.offR R, r⟩)
theorem shown_ok {d : PyData} (a : d.showable = true) (b : d.depth ≤ 40) (c : d.shown.length ≤ sizeLine) (e : PyData.strOk d.shown = true) : d.showable = true ∧ d.depth ≤ 40 ∧ d.shown.length ≤ sizeLine ∧ PyData.strOk d.shown = true := ⟨a, b, c, e⟩
theorem OddF.ok {v : V} {pd : PyData} (h : OddF v pd) : pd.showable = true ∧ pd.depth ≤ 40 ∧ pd.shown.length ≤ sizeLine ∧ PyData.strOk pd.shown = true := by
  cases h with
  | non => exact ⟨by decide, by decide, by decide +kernel, by decide +kernel⟩
  | bl b => cases b <;> exact ⟨by decide, by decide, by decide +kernel, by decide +kernel⟩
  | z => exact ⟨by decide, by decide, by decide +kernel, by decide +kernel⟩
  | m => exact ⟨by decide, by decide, by decide +kernel, by decide +kernel⟩
  | s => exact ⟨by decide +kernel, by decide, by decide +kernel, by decide +kernel⟩
theorem OddO.ok {o : HO} {pd : PyData} (h : OddO o pd) : pd.showable = true ∧ pd.depth ≤ 40 ∧ pd.shown.length ≤ sizeLine ∧ PyData.strOk pd.shown = true := by
  cases h <;> exact ⟨by decide +kernel, by decide, by decide +kernel, by decide +kernel⟩
theorem Odd.rep {K : PySem.W.Frag} {p : Addr} {H : Hp} {v : V} {z : Str} (h : Odd K p H v z) : RepAt K H v z := by
  rcases h with ⟨pd, h, rfl⟩ | ⟨a, o, pd, rfl, n, h, c, rfl⟩ | ⟨a, q, rfl, h, e, rfl⟩
  · obtain ⟨a1, a2, a3, _⟩ := h.ok
    refine .inl ⟨pd, ?_, a1, a2, a3, rfl⟩
    cases h with
    | non => exact .non
    | bl b => exact .bl b
    | z => exact .int 0
    | m => exact .int (-1)
    | s => exact .str _
  · obtain ⟨x, y, w, _⟩ := c.ok
    refine .inl ⟨pd, ?_, x, y, w, rfl⟩
    cases c with
    | l => exact .lst (SqL.of h) .nil
    | t => exact .tup (SqT.of h) (.cons (.int 1) .nil)
    | d => exact .dct h .nil
  · refine .inr ⟨a, q, rfl, h, ?_, rfl⟩
    rcases e with rfl | rfl <;> exact ⟨Nat.lt_of_lt_of_le (by decide : _ < 2 ^ 2) (Nat.pow_le_pow_right (by decide) (by decide)), Nat.lt_of_lt_of_le (by decide : _ < 2 ^ 2) (Nat.pow_le_pow_right (by decide) (by decide))⟩
theorem Odd.strOk {K : PySem.W.Frag} {p : Addr} {H : Hp} {v : V} {z : Str} (h : Odd K p H v z) : PyData.strOk z = true := by
  rcases h with ⟨pd, h, rfl⟩ | ⟨a, o, pd, rfl, n, h, c, rfl⟩ | ⟨a, q, rfl, h, e, rfl⟩
  · exact h.ok.2.2.2
  · exact c.ok.2.2.2
  · rcases e with rfl | rfl <;> decide +kernel
theorem notI_ty {K : PySem.W.Frag} {H : Hp} {v : V} {t : String} (ty : TyX K H v (.type t)) (e : PySem.W.kitOne K (.type t) (.type "int") = some false) : NotI K H v := ⟨_, false, false, ty, e, (fun z => by cases z), rfl⟩
theorem Odd.bad {K : PySem.W.Frag} {mg : Str → Option Value} {p : Addr} {H : Hp} {v : V} {z : Str} (T : RF K mg) (h : Odd K p H v z) : BadD K H v := by
  rcases h with ⟨pd, h, rfl⟩ | ⟨a, o, pd, rfl, n, h, c, rfl⟩ | ⟨a, q, rfl, h, e, rfl⟩
  · cases h with
    | non => exact .inl (notI_ty (.base .non) (kit_ty (by decide +kernel)))
    | bl b => exact .inl ⟨_, true, true, .base (.bl b), kit_ty (by decide +kernel), fun _ => kit_ty (by decide +kernel), rfl⟩
    | z => exact .inr ⟨0, rfl, by decide⟩
    | m => exact .inr ⟨-1, rfl, by decide⟩
    | s => exact .inl (notI_ty (.base (.str _)) (kit_ty (by decide +kernel)))
  · cases c with
    | l => exact .inl (notI_ty (.base (.lst h)) (kit_ty (by decide +kernel)))
    | t => exact .inl (notI_ty (.base (.tup h)) (kit_ty (by decide +kernel)))
    | d => exact .inl (notI_ty (.base (.dK h)) (kit_ty (by decide +kernel)))
  · exact .inl ⟨_, false, false, h.ty T, T.ki, (fun z => by cases z), rfl⟩
/-- what is no move -/
def Thing (p : Addr) (H : Hp) (v : V) : Prop := v = .non ∨ v = .int 3 ∨ v = .str "move" ∨ ∃ a, v = .ref a ∧ a ≠ p ∧ (H a = some (.lst []) ∨ H a = some (.dK []) ∨ H a = some (.tup [.int 1, .int 0, .int 0, .int 1]))
theorem Thing.ext {p : Addr} {H H' : Hp} {v : V} (h : Thing p H v) (k : LamX.ExtN H H') : Thing p H' v := by
  rcases h with h | h | h | ⟨a, e, n, h | h | h⟩
  · exact .inl h
  · exact .inr (.inl h)
  · exact .inr (.inr (.inl h))
  · exact .inr (.inr (.inr ⟨a, e, n, .inl (k _ _ h fun _ z => nomatch z)⟩))
  · exact .inr (.inr (.inr ⟨a, e, n, .inr (.inl (k _ _ h fun _ z => nomatch z))⟩))
  · exact .inr (.inr (.inr ⟨a, e, n, .inr (.inr (k _ _ h fun _ z => nomatch z))⟩))
theorem Thing.offp {p : Addr} {H : Hp} {v : V} (h : Thing p H v) : Thing p (GL.off H p) v := by
  rcases h with h | h | h | ⟨a, e, n, h⟩
  · exact .inl h
  · exact .inr (.inl h)
  · exact .inr (.inr (.inl h))
  · exact .inr (.inr (.inr ⟨a, e, n, by rw [off_ne n]; exact h⟩))
theorem Thing.notM {K : PySem.W.Frag} {p : Addr} {H : Hp} {v : V} (N : NA K) (h : Thing p H v) : NotA K (aM K) H v := by
  rcases h with rfl | rfl | rfl | ⟨a, rfl, n, h | h | h⟩
  · exact ⟨_, .base .non, N.m _ (by decide)⟩
  · exact ⟨_, .base (.int 3), N.m _ (by decide)⟩
  · exact ⟨_, .base (.str _), N.m _ (by decide)⟩
  · exact ⟨_, .base (.lst h), N.m _ (by decide)⟩
  · exact ⟨_, .base (.dK h), N.m _ (by decide)⟩
  · exact ⟨_, .base (.tup h), N.m _ (by decide)⟩
section
variable {P : Program} {w : World} {K : PySem.W.Frag} {mg : Str → Option Value} {base : Heap}
theorem made_ratR {K : PySem.W.Frag} {H : Hp} {R : VK} {E : XK} {x dx : Addr} {t b : Int} (hx : H x = none) (hd : H dx = none) (hb : b ≠ 0) (hz : b.natAbs < 2 ^ 9000) (k : ∀ H', Same H H' → RatAt K H' x (Rat.divInt t b) → R .non H') :
    spRInit K [.ref x, .int t, .int b] (upd (upd H dx (.own x)) x (.ins (aR K) dx [])) R E :=
  ⟨x, dx, t, b, rfl, hb, hz, upd_same, fun H' e kp => k H' (fun c o ec => kp c o (ne_of_none ec hx) (by rw [upd_ne (ne_of_none ec hx), upd_ne (ne_of_none ec hd)]; exact ec)) ⟨dx, e⟩⟩
def kdD (x y : Str) : PyData := .list [.str x, .str y]
theorem kdDp {K : PySem.W.Frag} {H : Hp} {r : Addr} {x y : Str} (e : H r = some (.lst [.str x, .str y])) : Dp K H (.ref r) (kdD x y) := .lst (SqL.of e) (.cons (.str _) (.cons (.str _) .nil))
theorem eqv_kd (x y : Str) : PyData.eqv (kdD x y) (kdD x y) = true := by simp [kdD, PyData.eqv, PyData.eqvAll]
theorem shp_kd {x y : Str} (a : PyData.strOk x = true) (b : PyData.strOk y = true) : SeqAt.shaped (kdD x y) = true := by simp [kdD, SeqAt.shaped, PyData.canLay0, PyData.canLayAll0, PyData.depth, PyData.depthAll, a, b]
structure LE (P : Program) (w : World) (K : PySem.W.Frag) (mg : Str → Option Value) (base : Heap) : Prop where
  D : LD P w K mg base
  N : NA K
  thenX : ∃ f fd, Meth K (aM K) "then" f ∧ FnOk P w K mg base (L2.CX P w) 4 f fd ["self", "other"] (spThenX K) ∧ Binds K fd ["self", "other"] []
/-! ### what is refused -/
def spRefused (K : PySem.W.Frag) (tbd tbr : Addr) : Sp := fun vs H Q _ => ∃ (p t : Addr) (m : Mv), vs = [.ref p, .ref t] ∧ Rng H p ∧ RowM H t m ∧ S80 m ∧ LamX.Tabs (tbs tbd tbr) H ∧ ∀ H', LamX.ExtN (off H p) H' → LamX.Tabs (tbs tbd tbr) H' → Q (.bl true) H'
abbrev nRefused : List Str := ["_law_rng_here", "_law_row", "_law_made_here", "_law_odd", "_law_thing"]
theorem scRefused : FnScope nRefused ["_law_rng_here", "_law_row"] (defScope sRefused) := ⟨rfl, rfl, rfl, by decide +kernel, rfl, by decide +kernel, by decide +kernel⟩
theorem ok_refused {f c tbd tbr : Addr} {fd : FuncData} (F : Fun K "_law_refused_right" "_law_refused_right" sRefused f fd) (hc : fd.code = .ref c) (TB : LamX.TabB base mg c tbr) (ne : tbd ≠ tbr) (Y : LE P w K mg base) : FnG P w K mg base CX0 11 f fd ["_law_rng_here", "_law_row"] (spRefused K tbd tbr) := by
  have X := Y.D
  have L := X.L
  obtain ⟨fT, fdT, FT, gT, bT⟩ := X.told
  obtain ⟨f2, fd2, m2, G2, b2⟩ := X.doneX
  obtain ⟨f3, fd3, m3, G3, b3⟩ := Y.thenX
  obtain ⟨fM, fdM, GM, gM, bM, kM⟩ := L.md
  obtain ⟨fV, fdV, GV, gV, bV, kV⟩ := L.isM
  obtain ⟨fC, fdC, GC, gC, bC, kC⟩ := X.D.choice
  obtain ⟨fRi, fdRi, dd, MR, GRi, vd, bRi, _⟩ := L.Y.Z.N.M.L.C.J.I.R.G.mR
  have T := L.Y.Z.N.M.T
  have TR := L.Y.Z.N.M.L.C.J.I.R.G.T
  have M := X.D.F
  have S := L.Y.Z.S
  obtain ⟨ocT, odT, kVT, docT, pmT, anT, cdT, ctT, oslT, rfl, lkT, hcT⟩ := FT.ex
  have kT := FT.kp
  obtain ⟨oc, od, kv, doc, pm, an, cdv, ct, osl, rfl, lk, hcd⟩ := F.ex
  obtain rfl : cdv = .ref c := hc
  refine FnG.ofBody lk hcd scRefused (fun vs H Q E h => ?_) (fun A outer s H vs Q E gd hr h => ?_)
  · obtain ⟨p, t, m, rfl, _⟩ := h
    rfl
  · obtain ⟨p, t, m, rfl, R, ht, SS, tabs, k⟩ := h
    have hu := hr.units
    have r2 : Room 2 _ := hr.mono (by decide)
    have r3 : Room 3 _ := hr.mono (by decide)
    have r4 : Room 4 _ := hr.mono (by decide)
    have r7 : Room 7 _ := hr.mono (by decide)
    have r8 : Room 8 _ := hr.mono (by decide)
    have one : ∀ x ∈ tbs tbd tbr, x.1 = tbr → x.2 = lamR := fun x hx e => by
      simp only [List.mem_cons, List.not_mem_nil, or_false] at hx
      rcases hx with rfl | rfl
      · exact absurd e ne
      · rfl
    suffices z : ∃ y, PSs (cxOf CX0 P w K mg base nRefused "_law_refused_right" (defScope sRefused) f (.ref c) A outer s H E).nox (defBody sRefused) y ∧ y { nx := fun _ H' => Q .non H', rt := Q } (L2.start nRefused [.ref p, .ref t]) H by
      obtain ⟨y, h, q⟩ := z
      exact ⟨y, h.nox, q⟩
    refine ⟨_, pss_cons (ps_set (i := 2) scRefused.nd rfl (Or.inr rfl) (pe_call GM r8 rfl gM kM bM .nil pass0 (pa_cons (pv 0) (pa_cons (pv 1) pa_nil))))
      (pss_cons (ps_set (i := 3) scRefused.nd rfl (Or.inr rfl) (pe_call GC r2 rfl gC kC bC .nil pass0 (pa_cons (pv 0) (pa_cons (pe_lst (pa_cons pe_non (pa_cons pe_bl (pa_cons pe_bl (pa_cons pe_int (pa_cons (pe_un un_neg pe_int) (pa_cons pe_str (pa_cons (pe_lst pa_nil) (pa_cons (pe_make MR GRi r3 rfl TR.gR bRi vd pass0 (pa_cons pe_int pa_nil)) (pa_cons (pe_make MR GRi r3 rfl TR.gR bRi vd pass0 (pa_cons pe_int pa_nil)) (pa_cons (pe_tup (pa_cons pe_int pa_nil)) (pa_cons pe_dnewK pa_nil)))))))))))) pa_nil))))
      (pss_cons (ps_set (i := 4) scRefused.nd rfl (Or.inr rfl) (pe_call GC r2 rfl gC kC bC .nil pass0 (pa_cons (pv 0) (pa_cons (pe_lst (pa_cons pe_non (pa_cons pe_int (pa_cons pe_str (pa_cons (pe_lst pa_nil) (pa_cons pe_dnewK (pa_cons (pe_tup (pa_cons pe_int (pa_cons pe_int (pa_cons pe_int (pa_cons pe_int pa_nil))))) pa_nil))))))) pa_nil))))
      (pss_cons (ps_if (pt_cmpR (op_neD hu) (pe_told (T := tbs tbd tbr) (TT := TT13 K) (k := 5) rfl gT kT lkT hcT bT scTold rfl (.inl rfl) (told13 (k := 4) rfl X.Z S X.RR M.repr gd) TB rfl (List.mem_cons_of_mem _ List.mem_cons_self) one r7 (LamX.lamS_by (sc := defScope sRefused) (by decide +kernel)) rfl (fun _ _ _ _ _ => rfl) (fun A outer s H E f c' hA hr5 => pe_meth (pv 2) T.cl m2 G2 (hr5.mono (by decide)) b2 .nil (passE (takes_of rfl rfl rfl rfl)) (pa_cons (pv 3) pa_nil))) (pe_lst (pa_cons pe_str (pa_cons (pe_callB (call_repZ S X.RR gd ⟨r2.dp, r2.un⟩) (by rfl) M.repr (by decide +kernel) (pa_cons (pv 3) pa_nil)) pa_nil))) (nomark _)) (pss_one (ps_ret pe_bl)) pss_nil)
      (pss_one (ps_ret (pe_and (pe_cmpR (op_eqD hu) (pe_told (T := tbs tbd tbr) (TT := TT13 K) (k := 5) rfl gT kT lkT hcT bT scTold rfl (.inl rfl) (told13 (k := 4) rfl X.Z S X.RR M.repr gd) TB rfl (List.mem_cons_of_mem _ List.mem_cons_self) one r7 (LamX.lamS_by (sc := defScope sRefused) (by decide +kernel)) rfl (fun _ _ _ _ _ => rfl) (fun A outer s H E f c' hA hr5 => pe_meth (pv 2) T.cl m3 G3 (hr5.mono (by decide)) b3 .nil (passE (takes_of rfl rfl rfl rfl)) (pa_cons (pv 4) pa_nil))) (pe_lst (pa_cons pe_str (pa_cons pe_str pa_nil))) (nomark _)) (pe_one (pe_callG GV gd r4 rfl gV kV bV .nil pass0 (pa_cons (pv 2) (pa_cons (pv 1) pa_nil)))))))))), ?_⟩
    have d1 := SS.d1
    have su := SS.u
    have sl := SS.lo
    have sh := SS.hi
    refine ⟨_, rfl, _, rfl, p, t, m.d, m.u, m.lo, m.hi, rfl, R, ht, d1, SS.le, su.mono (by decide), sl.mono (by decide), sh.mono (by decide), fun s H1 k1 R1 hs => ?_⟩
    obtain ⟨C, hC⟩ : ∃ C : Hp → Prop, ∀ G, C G ↔ (LamX.ExtN (off H p) G ∧ Rng G p ∧ RowM G t m ∧ MovM K G s m ∧ LamX.Tabs (tbs tbd tbr) G) := ⟨_, fun _ => Iff.rfl⟩
    have tO : ∀ {G G' : Hp}, LamX.Tabs (tbs tbd tbr) G → Rng G p → Same (off G p) G' → LamX.Tabs (tbs tbd tbr) G' := by
      intro G G' t R' s
      obtain ⟨x, y, ep, _⟩ := R'
      exact Tabs.same (Tabs.offP t ep) s
    have stE : ∀ {G G' : Hp}, C G → LamX.ExtN G G' → LamX.Tabs (tbs tbd tbr) G' → C G' := by
      intro G G' b e tt
      obtain ⟨x1, x2, x3, x4, _⟩ := (hC _).mp b
      exact (hC _).mpr ⟨x1.trans e, x2.ext e, x3.ext e, x4.ext e, tt⟩
    have stS : ∀ {G G' : Hp}, C G → Same G G' → C G' := fun b s => stE b (same_extN s) (Tabs.same ((hC _).mp b).2.2.2.2 s)
    have stO : ∀ {G G' : Hp}, C G → Same (off G p) G' → Rng G' p → C G' := by
      intro G G' b s R'
      obtain ⟨x1, x2, x3, x4, x5⟩ := (hC _).mp b
      exact (hC _).mpr ⟨fun a o e n => s a o (by rw [off_ne (off_some e).1]; exact x1 a o e n), R', (x3.offR x2).same s, (x4.offR x2).same s, tO x5 x2 s⟩
    have c1 : C H1 := (hC _).mpr ⟨same_extN k1, R1, (ht.offR R).same k1, hs, tO tabs R k1⟩
    have Rn : ∀ {G}, C G → Rng G p := fun c => ((hC _).mp c).2.1
    have A : ∀ {G}, C G → RowM G t m := fun c => ((hC _).mp c).2.2.1
    have B : ∀ {G}, C G → MovM K G s m := fun c => ((hC _).mp c).2.2.2.1
    have Tb : ∀ {G}, C G → LamX.Tabs (tbs tbd tbr) G := fun c => ((hC _).mp c).2.2.2.2
    clear hs R1 k1
    -- the odd thing
    refine ⟨_, rfl, _, rfl, (by show 0 ≤ sizeLine; decide), fun q0 n0 => ?_⟩
    have s0 := same_new (o := .lst ([] : List V)) n0
    have f0 : upd H1 q0 (.lst []) q0 = some (.lst []) := upd_same
    have p0 : q0 ≠ p := (Rn c1).ne_new n0
    generalize upd H1 q0 (.lst []) = Ha at *
    have ca := stS c1 s0
    intro x1 y1 na1 nd1 ne1
    refine made_ratR (t := 1) (b := 1) na1 nd1 (by decide) (by show 1 < 2 ^ 9000; exact Nat.one_lt_two_pow (by decide)) fun Hb kb hr1 => ⟨rfl, ?_⟩
    have cb := stS ca kb
    intro x2 y2 na2 nd2 ne2
    refine made_ratR (t := 2) (b := 1) na2 nd2 (by decide) (by show 1 < 2 ^ 9000; exact Nat.one_lt_two_pow (by decide)) fun Hc kc hr2 => ⟨rfl, (by show 1 ≤ sizeLine; decide), fun q3 n3 q4 n4 => ⟨(by show 11 ≤ sizeLine; decide), fun Lq nL => ?_⟩⟩
    have cc := stS cb kc
    have s3 := same_new (o := .tup [V.int 1]) n3
    have f3 : upd Hc q3 (.tup [V.int 1]) q3 = some (.tup [V.int 1]) := upd_same
    have p3 : q3 ≠ p := (Rn cc).ne_new n3
    generalize upd Hc q3 (.tup [V.int 1]) = Hd at *
    have cd := stS cc s3
    have s4 := same_new (o := .dK []) n4
    have f4 : upd Hd q4 (.dK []) q4 = some (.dK []) := upd_same
    have p4 : q4 ≠ p := (Rn cd).ne_new n4
    generalize upd Hd q4 (.dK []) = He at *
    have ce := stS cd s4
    have s5 := same_new (o := .lst [V.non, .bl true, .bl false, .int 0, .int (-1), .str "1", .ref q0, .ref x1, .ref x2, .ref q3, .ref q4]) nL
    have eL : upd He Lq (.lst [V.non, .bl true, .bl false, .int 0, .int (-1), .str "1", .ref q0, .ref x1, .ref x2, .ref q3, .ref q4]) Lq = some (.lst [V.non, .bl true, .bl false, .int 0, .int (-1), .str "1", .ref q0, .ref x1, .ref x2, .ref q3, .ref q4]) := upd_same
    have Lp : Lq ≠ p := (Rn ce).ne_new nL
    generalize upd He Lq (.lst [V.non, .bl true, .bl false, .int 0, .int (-1), .str "1", .ref q0, .ref x1, .ref x2, .ref q3, .ref q4]) = Hf at *
    have cf := stS ce s5
    have g0 := s5 _ _ (s4 _ _ (s3 _ _ (kc _ _ (kb _ _ f0))))
    have g1 := (((hr1.same kc).same s3).same s4).same s5
    have g2 := ((hr2.same s3).same s4).same s5
    have g3 := s5 _ _ (s4 _ _ f3)
    have g4 := s5 _ _ f4
    refine ⟨p, Lq, _, rfl, Rn cf, eL, Lp, by show 0 < 11; decide, by show 11 < 1000; decide, fun v Hg mv kp Rg => ?_⟩
    have kd : Same (off Hf p) Hg := off_kp kp
    have odd : ∃ z, Odd K p Hf v z := by
      simp only [List.mem_cons, List.not_mem_nil, or_false] at mv
      rcases mv with rfl | rfl | rfl | rfl | rfl | rfl | rfl | rfl | rfl | rfl | rfl
      · exact ⟨_, .inl ⟨_, .non, rfl⟩⟩
      · exact ⟨_, .inl ⟨_, .bl _, rfl⟩⟩
      · exact ⟨_, .inl ⟨_, .bl _, rfl⟩⟩
      · exact ⟨_, .inl ⟨_, .z, rfl⟩⟩
      · exact ⟨_, .inl ⟨_, .m, rfl⟩⟩
      · exact ⟨_, .inl ⟨_, .s, rfl⟩⟩
      · exact ⟨_, .inr (.inl ⟨q0, _, _, rfl, p0, g0, .l, rfl⟩)⟩
      · exact ⟨_, .inr (.inr ⟨x1, _, rfl, g1, .inl (by decide +kernel), rfl⟩)⟩
      · exact ⟨_, .inr (.inr ⟨x2, _, rfl, g2, .inr (by decide +kernel), rfl⟩)⟩
      · exact ⟨_, .inr (.inl ⟨q3, _, _, rfl, p3, g3, .t, rfl⟩)⟩
      · exact ⟨_, .inr (.inl ⟨q4, _, _, rfl, p4, g4, .d, rfl⟩)⟩
    obtain ⟨zz, odd⟩ := odd
    replace odd := (odd.offp (Rn cf)).ext (same_extN kd)
    have cg := stO cf kd Rg
    clear g0 g1 g2 g3 g4 mv kp kd Rg cf s5 eL Lp nL ce s4 f4 p4 n4 cd s3 f3 p3 n3 cc kc hr2 na2 nd2 ne2 cb kb hr1 na1 nd1 ne1 ca s0 f0 p0 n0 c1
    -- the thing
    refine ⟨_, rfl, (by show 0 ≤ sizeLine; decide), fun q0 n0 q1 n1 => ⟨(by show 4 ≤ sizeLine; decide), fun q2 n2 => ⟨(by show 6 ≤ sizeLine; decide), fun Lq nL => ?_⟩⟩⟩
    have s0 := same_new (o := .lst ([] : List V)) n0
    have f0 : upd Hg q0 (.lst []) q0 = some (.lst []) := upd_same
    have p0 : q0 ≠ p := (Rn cg).ne_new n0
    generalize upd Hg q0 (.lst []) = Ha at *
    have ca := stS cg s0
    have s1 := same_new (o := .dK []) n1
    have f1 : upd Ha q1 (.dK []) q1 = some (.dK []) := upd_same
    have p1 : q1 ≠ p := (Rn ca).ne_new n1
    generalize upd Ha q1 (.dK []) = Hb at *
    have cb := stS ca s1
    have s2 := same_new (o := .tup [V.int 1, .int 0, .int 0, .int 1]) n2
    have f2 : upd Hb q2 (.tup [V.int 1, .int 0, .int 0, .int 1]) q2 = some (.tup [V.int 1, .int 0, .int 0, .int 1]) := upd_same
    have p2 : q2 ≠ p := (Rn cb).ne_new n2
    generalize upd Hb q2 (.tup [V.int 1, .int 0, .int 0, .int 1]) = Hc at *
    have cc := stS cb s2
    have s3 := same_new (o := .lst [V.non, .int 3, .str "move", .ref q0, .ref q1, .ref q2]) nL
    have eL : upd Hc Lq (.lst [V.non, .int 3, .str "move", .ref q0, .ref q1, .ref q2]) Lq = some (.lst [V.non, .int 3, .str "move", .ref q0, .ref q1, .ref q2]) := upd_same
    have Lp : Lq ≠ p := (Rn cc).ne_new nL
    generalize upd Hc Lq (.lst [V.non, .int 3, .str "move", .ref q0, .ref q1, .ref q2]) = Hd at *
    have cd := stS cc s3
    have g0 := s3 _ _ (s2 _ _ (s1 _ _ f0))
    have g1 := s3 _ _ (s2 _ _ f1)
    have g2 := s3 _ _ f2
    have oddd := odd.ext (same_extN (((s0.trans s1).trans s2).trans s3))
    refine ⟨p, Lq, _, rfl, Rn cd, eL, Lp, by show 0 < 6; decide, by show 6 < 1000; decide, fun y He my kp Re => ?_⟩
    have kd : Same (off Hd p) He := off_kp kp
    have thing : Thing p Hd y := by
      simp only [List.mem_cons, List.not_mem_nil, or_false] at my
      rcases my with rfl | rfl | rfl | rfl | rfl | rfl
      · exact .inl rfl
      · exact .inr (.inl rfl)
      · exact .inr (.inr (.inl rfl))
      · exact .inr (.inr (.inr ⟨q0, rfl, p0, .inl g0⟩))
      · exact .inr (.inr (.inr ⟨q1, rfl, p1, .inr (.inl g1)⟩))
      · exact .inr (.inr (.inr ⟨q2, rfl, p2, .inr (.inr g2)⟩))
    replace thing := thing.offp.ext (same_extN kd)
    have odde := (oddd.offp (Rn cd)).ext (same_extN kd)
    have ce := stO cd kd Re
    clear my kp kd Re oddd g0 g1 g2 cd s3 eL Lp nL cc s2 f2 p2 n2 cb s1 f1 p1 n1 ca s0 f0 p0 n0 odd cg
    -- what is told
    refine ⟨Tb ce, fun G1 x1 t1 => ?_⟩
    have w1 := stE ce x1 t1
    have o1 := odde.ext x1
    have h1 := thing.ext x1
    refine tt_count o1.rep (fun E H1 R s' o => ?_) (fun ra G2 s2 e2 => ?_)
    · have hmz := B (stS w1 s')
      obtain ⟨_, _, dx, _, _, _, es, _⟩ := id hmz
      exact ⟨_, rfl, s, dx, _, rfl, es, rfl, _, rfl, s, m, v, rfl, hmz, .inl ⟨(o1.ext (same_extN s')).bad TR, o⟩⟩
    have w2 := stS w1 s2
    have o2 := o1.ext (same_extN s2)
    refine ⟨_, rfl, v, zz, rfl, o2.rep, (by show 2 ≤ sizeLine; decide), fun i1 n1 => ?_⟩
    have s3 := same_new (o := .lst [V.str "count", .str zz]) n1
    have e3 : upd G2 i1 (.lst [V.str "count", .str zz]) i1 = some (.lst [V.str "count", .str zz]) := upd_same
    have e23 := s3 _ _ e2
    have w3 := stS w2 s3
    have h3 := (h1.ext (same_extN s2)).ext (same_extN s3)
    generalize upd G2 i1 (.lst [V.str "count", .str zz]) = G3 at *
    have sk : SeqAt.shaped (kdD "count" zz) = true := shp_kd (by decide +kernel) o2.strOk
    refine ⟨_, _, kdDp e23, kdDp e3, sk, sk, _, rfl, ?_⟩
    rw [eqv_kd]
    refine iteF ?_
    clear e23 e3 n1 s3 o2 w2 s2 e2 o1 h1 w1 x1 t1 odde thing ce
    refine ⟨Tb w3, fun G4 x4 t4 => ?_⟩
    have w4 := stE w3 x4 t4
    have h4 := h3.ext x4
    refine tt_move "other" (fun E H1 R s' o => ?_) (fun ra G5 s5 e5 => ?_)
    · have hmz := B (stS w4 s')
      obtain ⟨_, _, dx, _, _, _, es, _⟩ := id hmz
      exact ⟨_, rfl, s, dx, _, rfl, es, rfl, _, rfl, s, y, rfl, (h4.ext (same_extN s')).notM Y.N, o⟩
    have w5 := stS w4 s5
    refine ⟨(by show 2 ≤ sizeLine; decide), fun i1 n1 => ?_⟩
    have s6 := same_new (o := .lst [V.str "move", .str "other"]) n1
    have e6 : upd G5 i1 (.lst [V.str "move", .str "other"]) i1 = some (.lst [V.str "move", .str "other"]) := upd_same
    have e56 := s6 _ _ e5
    have w6 := stS w5 s6
    generalize upd G5 i1 (.lst [V.str "move", .str "other"]) = G6 at *
    refine ⟨_, _, kdDp e56, kdDp e6, by decide +kernel, by decide +kernel, _, rfl, ?_⟩
    rw [eqv_kd]
    refine iteT ?_
    refine ⟨_, rfl, _, rfl, s, t, _, _, _, _, rfl, B w6, A w6, su.mono (by decide), sl.mono (by decide), sh.mono (by decide), SS.sd.mono (by decide), fun G7 k7 => ?_⟩
    have w7 := stS w6 k7
    exact k G7 ((hC _).mp w7).1 (Tb w7)
end
end K18
set_option maxHeartbeats 8000000
namespace K18
open PySem PySem.Spec PyProof.Rows L2 GL
abbrev sRight : Stmt := tp 44
abbrev sLaw : Stmt := tp 45
theorem sqL_ext {K : PySem.W.Frag} {H H' : Hp} {a : Addr} {xs : List V} (h : SqL K H a xs) (k : LamX.ExtN H H') : SqL K H' a xs := by
  rcases h with (h | ⟨o, h⟩) | h
  · exact .inl (.inl (k _ _ h fun _ z => by cases z))
  · exact .inl (.inr ⟨o, k _ _ h fun _ z => by cases z⟩)
  · exact .inr h
def KeepT (H H' : Hp) : Prop := ∀ a xs, H a = some (.tup xs) → H' a = some (.tup xs)
theorem keepT_upd {H : Hp} {l : Addr} {xs : List V} {o : HO} (h : H l = some (.lst xs)) : KeepT H (upd H l o) := fun a ys e => by
  rw [upd_ne (fun z => by rw [z, h] at e; cases e)]
  exact e
/-- a row as it is drawn -/
def DrawnAt (H : Hp) (v : V) : Prop := ∃ (t : Addr) (m : Mv), v = .ref t ∧ RowM H t m ∧ S80 m
theorem DrawnAt.same {H H' : Hp} {v : V} (h : DrawnAt H v) (k : Same H H') : DrawnAt H' v := by
  obtain ⟨t, m, e, ht, r⟩ := h
  exact ⟨t, m, e, ht.same k, r⟩
theorem DrawnAt.ext {H H' : Hp} {v : V} (h : DrawnAt H v) (k : LamX.ExtN H H') : DrawnAt H' v := by
  obtain ⟨t, m, e, ht, r⟩ := h
  exact ⟨t, m, e, ht.ext k, r⟩
theorem DrawnAt.offR {H : Hp} {p : Addr} {v : V} (h : DrawnAt H v) (R : Rng H p) : DrawnAt (GL.off H p) v := by
  obtain ⟨t, m, e, ht, r⟩ := h
  exact ⟨t, m, e, ht.offR R, r⟩
theorem DrawnAt.keepT {H H' : Hp} {v : V} (h : DrawnAt H v) (k : KeepT H H') : DrawnAt H' v := by
  obtain ⟨t, m, e, ⟨a, b, c, ht, ha, hb, hc⟩, r⟩ := h
  exact ⟨t, m, e, ⟨a, b, c, k _ _ ht, k _ _ ha, k _ _ hb, k _ _ hc⟩, r⟩
theorem tabs_updL {T : List (Addr × Str)} {H : Hp} {D : Addr} {xs : List V} {o : HO} (t : LamX.Tabs T H) (e : H D = some (.lst xs)) : LamX.Tabs T (upd H D o) := fun x hx => by
  obtain ⟨ps, h1, h2, h3⟩ := t x hx
  refine ⟨ps, ?_, h2, fun pos cv hc => ?_⟩
  · rw [upd_ne (fun z => by rw [z, e] at h1; cases h1)]
    exact h1
  · obtain ⟨c, e1, e2⟩ := h3 pos cv hc
    refine ⟨c, e1, ?_⟩
    rw [upd_ne (fun z => by rw [z, e] at e2; exact codeO_lst (Option.some.inj e2).symm)]
    exact e2
section
variable {P : Program} {w : World} {K : PySem.W.Frag} {mg : Str → Option Value} {base : Heap}
structure LZ (P : Program) (w : World) (K : PySem.W.Frag) (mg : Str → Option Value) (base : Heap) (tbd tbr : Addr) : Prop where
  F : Free mg
  mv : DefF P w K mg base "_law_move" 4 ["_law_rng_here"] (spMoveL K)
  th : DefG P w K mg base "_law_then_right" 9 ["_law_rng_here", "_law_rows"] (spThenR K)
  dn : DefG P w K mg base "_law_done_right" 11 ["_law_rng_here", "_law_row"] (spDoneR K tbd tbr)
  rr : DefG P w K mg base "_law_refused_right" 11 ["_law_rng_here", "_law_row"] (spRefused K tbd tbr)
abbrev nRight : List Str := ["_law_rng_here", "_law_rows", "_law_flat", "_law_turn", "_law_row"]
def spRight (K : PySem.W.Frag) (tbd tbr : Addr) : Sp := fun vs H Q _ => ∃ p : Addr, vs = [.ref p] ∧ Rng H p ∧ LamX.Tabs (tbs tbd tbr) H ∧ ∀ H', LamX.ExtN (off H p) H' → LamX.Tabs (tbs tbd tbr) H' → Q (.bl true) H'
theorem scRight : FnScope nRight ["_law_rng_here"] (defScope sRight) := ⟨rfl, rfl, rfl, by decide +kernel, rfl, by decide +kernel, by decide +kernel⟩
theorem ok_right {tbd tbr f : Addr} {fd : FuncData} (F : Fun K "_law_right" "_law_right" sRight f fd) (Y : LZ P w K mg base tbd tbr) : FnG P w K mg base CX0 12 f fd ["_law_rng_here"] (spRight K tbd tbr) := by
  obtain ⟨fM, fdM, GM, gM, bM, kM⟩ := Y.mv
  obtain ⟨f1, fd1, G1, g1, b1, k1⟩ := Y.th
  obtain ⟨f2, fd2, G2, g2, b2, k2⟩ := Y.dn
  obtain ⟨f3, fd3, G3, g3, b3, k3⟩ := Y.rr
  have M := Y.F
  refine Fun.okG F scRight (fun vs H Q E h => ?_) (fun cdv A outer s H vs Q E gd hr h => ?_)
  · obtain ⟨p, rfl, _⟩ := h
    rfl
  · obtain ⟨p, rfl, R, tabs, k⟩ := h
    have r4 : Room 4 _ := hr.mono (by decide)
    have r9 : Room 9 _ := hr.mono (by decide)
    refine ⟨_, pss_cons (ps_setLc (i := 1) (own := [("_law_turn", 3)]) (g := gName 3) (tt := tYes) (te := tCall (spMoveL K) [] E0 (tCons (tVar 0) tNil)) (by rfl) scRight.nd rfl rfl (sw_true rfl rfl rfl (by decide +kernel)) (pi_range1 (by rfl) M.range (pa_cons pe_int pa_nil))
        (blkOk_by (own := [("_law_turn", 3)]) (N := nRight) (sc := defScope sRight) (by decide +kernel)) (fun _ _ _ _ _ => pg_name (i := 3) scRight.nd rfl (Or.inl rfl)) (fun _ _ _ _ _ => pts_nil)
        (fun _ _ _ _ _ => by exact (pe_call GM r4 rfl gM kM bM .nil pass0 (pa_cons (pv 0) pa_nil))))
      (pss_cons (ps_if (PW.pt (pw_or (pt_not (pt_val (pe_callG G1 gd r9 rfl g1 k1 b1 .nil pass0 (pa_cons (pv 0) (pa_cons (pv 1) pa_nil))))) (pw_or1 (pt_not (pt_val (pe_callG G1 gd r9 rfl g1 k1 b1 .nil pass0 (pa_cons (pv 0) (pa_cons (pe_lst (pa_cons (pe_ix ix_list (pv 1) pe_int (fun _ _ => rfl)) (pa_cons (pe_ix ix_list (pv 1) pe_int (fun _ _ => rfl)) (pa_cons (pe_ix ix_list (pv 1) pe_int (fun _ _ => rfl)) pa_nil)))) pa_nil)))))))) (pss_one (ps_ret pe_bl)) pss_nil)
      (pss_cons (ps_set (i := 2) scRight.nd rfl (Or.inl rfl) (pe_op op_catT (pe_tup (pa_cons pe_int pa_nil)) (pe_slice sl_tup (pe_ix ix_list (pv 1) pe_int (fun _ _ => rfl)) (po_some pe_int) po_none)))
      (pss_one (ps_ret (pe_and (pe_callB (cr_all rfl) (by rfl) M.all (by decide +kernel) (pa_cons (pe_lc (own := [("_law_row", 4)]) (g := gName 4) (tt := tYes) (te := tCall (spDoneR K tbd tbr) [] E0 (tCons (tVar 0) (tCons (tVar 4) tNil))) rfl scRight.nd (pi_list (pe_op op_cat (pv 1) (pe_lst (pa_cons (pv 2) pa_nil))))
        (blkOk_by (own := [("_law_row", 4)]) (N := nRight) (sc := defScope sRight) (by decide +kernel)) (fun _ _ _ _ _ => pg_name (i := 4) scRight.nd rfl (Or.inl rfl)) (fun _ _ _ _ _ => pts_nil)
        (fun _ _ _ _ _ => by exact (pe_callG G2 gd hr rfl g2 k2 b2 .nil pass0 (pa_cons (pv 0) (pa_cons (pv 4) pa_nil))))) pa_nil))
        (pe_one (pe_callG G3 gd hr rfl g3 k3 b3 .nil pass0 (pa_cons (pv 0) (pa_cons (pe_ix ix_list (pv 1) pe_int (fun _ _ => rfl)) pa_nil))))))))), ?_⟩
    refine ⟨_, rfl, by decide, by decide, fun D hD => ?_⟩
    have Dp_ : D ≠ p := R.ne_new hD
    refine lc_range (lo := 0) (n := 3) (fun i G => ∃ acc, G D = some (.lst acc) ∧ acc.length = i ∧ Same (off H p) G ∧ Rng G p ∧ ∀ v ∈ acc, DrawnAt G v) ⟨[], upd_same, rfl, fun x o e => ?_, ?_, fun v hv => by cases hv⟩ ?_ ?_
    · rw [upd_ne (ne_of_none (off_some e).2 hD)]
      exact (off_some e).2
    · obtain ⟨x, y, ep, r⟩ := R
      exact ⟨x, y, by rw [upd_ne Dp_.symm]; exact ep, r⟩
    · rintro i G hi ⟨acc, hacc, lacc, s, RG, rows⟩
      refine ⟨rfl, ?_⟩
      refine ⟨_, rfl, p, rfl, RG, fun t d u lo hi G' k' R' hrow d1 d2 le su sl sh => ?_⟩
      have hacc' := k' D _ (by rw [off_ne Dp_]; exact hacc)
      refine ⟨acc, hacc', (by rw [sizeLine_eq]; omega), acc ++ [.ref t], upd_same, (by rw [List.length_append, List.length_singleton]; omega), fun x o e => ?_, ?_, fun v hv => ?_⟩
      · rw [upd_ne (ne_of_none (off_some e).2 hD)]
        exact off_off s k' x o e
      · obtain ⟨x, y, ep, r⟩ := R'
        exact ⟨x, y, by rw [upd_ne Dp_.symm]; exact ep, r⟩
      · have kt := keepT_upd (o := .lst (acc ++ [.ref t])) hacc'
        rcases List.mem_append.mp hv with hv | hv
        · exact (((rows v hv).offR RG).same k').keepT kt
        · rw [List.mem_singleton.mp hv]
          exact DrawnAt.keepT ⟨t, ⟨d, u, lo, hi⟩, rfl, hrow, ⟨d1, d2, le, su, sl, sh⟩⟩ kt
    · rintro G ⟨acc, hacc, lacc, s, RG, rows⟩
      have tG : LamX.Tabs (tbs tbd tbr) G := by
        obtain ⟨x, y, ep, _⟩ := id R
        exact Tabs.same (Tabs.offP tabs ep) s
      obtain ⟨v0, v1, v2, rfl⟩ : ∃ v0 v1 v2, acc = [v0, v1, v2] := by
        match acc, lacc with
        | [a, b, c], _ => exact ⟨a, b, c, rfl⟩
      obtain ⟨t0, m0, rfl, h0, S0⟩ := rows v0 (by simp)
      obtain ⟨t1, m1, rfl, h1, S1⟩ := rows v1 (by simp)
      obtain ⟨t2, m2, rfl, h2, S2⟩ := rows v2 (by simp)
      have tO : ∀ {G G' : Hp}, LamX.Tabs (tbs tbd tbr) G → Rng G p → Same (off G p) G' → LamX.Tabs (tbs tbd tbr) G' := by
        intro G G' t R' s
        obtain ⟨x, y, ep, _⟩ := R'
        exact Tabs.same (Tabs.offP t ep) s
      refine ⟨_, rfl, _, rfl, p, D, t0, t1, t2, m0, m1, m2, rfl, RG, hacc, Dp_, h0, h1, h2, S0, S1, S2, fun G1 s1 R1 => ⟨true, rfl, iteF ?_⟩⟩
      have a1 := s1 D _ (by rw [off_ne Dp_]; exact hacc)
      refine ⟨_, rfl, _, rfl, D, _, _, .ref t1, rfl, rfl, SqL.of a1, rfl, _, rfl, D, _, _, .ref t1, rfl, rfl, SqL.of a1, rfl, _, rfl, D, _, _, .ref t0, rfl, rfl, SqL.of a1, rfl, (by show 3 ≤ sizeLine; decide), fun L2' n2 => ?_⟩
      have u2 := same_new (o := .lst [V.ref t1, .ref t1, .ref t0]) n2
      have e2 : upd G1 L2' (.lst [V.ref t1, .ref t1, .ref t0]) L2' = some (.lst [V.ref t1, .ref t1, .ref t0]) := upd_same
      have R2 := R1.same u2
      have t1' := Tabs.same (tO tG RG s1) u2
      have g0 := ((h0.offR RG).same s1).same u2
      have g1_ := ((h1.offR RG).same s1).same u2
      have g2_ := ((h2.offR RG).same s1).same u2
      have s02 : Same (off H p) (upd G1 L2' (.lst [V.ref t1, .ref t1, .ref t0])) := fun x o z => u2 x o (off_off s s1 x o z)
      have a2 := u2 _ _ a1
      have lp2 := R1.ne_new n2
      generalize upd G1 L2' (.lst [V.ref t1, .ref t1, .ref t0]) = G2' at *
      refine ⟨p, L2', t1, t1, t0, m1, m1, m0, rfl, R2, e2, lp2, g1_, g1_, g0, S1, S1, S0, fun G3' s3 R3 => ⟨true, rfl, iteF ?_⟩⟩
      have a3 := s3 D _ (by rw [off_ne Dp_]; exact a2)
      have s03 := off_off s02 s3
      have t3 := tO t1' R2 s3
      have q0 := (g0.offR R2).same s3
      have q1 := (g1_.offR R2).same s3
      have q2 := (g2_.offR R2).same s3
      clear s3 g0 g1_ g2_ s02 a2 t1' R2 e2 u2 n2 a1 s1 R1 h0 h1 h2 rows hacc tG RG s
      -- the flat one
      obtain ⟨ra, rb, rc, et, hra, hrb, hrc⟩ := id q2
      refine ⟨(by show 1 ≤ sizeLine; decide), fun z1 n1 => ?_⟩
      have u4 := same_new (o := .tup [V.int 1]) n1
      have e4 : upd G3' z1 (.tup [V.int 1]) z1 = some (.tup [V.int 1]) := upd_same
      have et4 := u4 _ _ et
      have a4 := u4 _ _ a3
      generalize upd G3' z1 (.tup [V.int 1]) = G4 at *
      refine ⟨_, rfl, D, _, _, .ref t2, rfl, rfl, SqL.of a4, rfl, 1, rfl, t2, _, rfl, SqT.of et4, (show ¬ (HT.sIx 4 0 (some 1) = 0 ∧ HT.sIx 4 4 none = 4) by decide), fun z2 n2 => ?_⟩
      rw [show cutV [V.int m2.d, .ref ra, .ref rb, .ref rc] (some 1) none = [V.ref ra, .ref rb, .ref rc] from rfl]
      have u5 := same_new (o := .tup [V.ref ra, .ref rb, .ref rc]) n2
      have e5 : upd G4 z2 (.tup [V.ref ra, .ref rb, .ref rc]) z2 = some (.tup [V.ref ra, .ref rb, .ref rc]) := upd_same
      have e45 := u5 _ _ e4
      refine ⟨z1, z2, _, _, rfl, rfl, SqT.of e45, SqT.of e5, (fun z => nomatch z), (by show 4 ≤ sizeLine; decide), (fun z => nomatch z), fun _ z3 n3 => ?_⟩
      have u6 := (u4.trans u5).trans (same_new (o := .tup ([V.int 1] ++ [V.ref ra, .ref rb, .ref rc])) n3)
      have hf : RowM (upd (upd G4 z2 (.tup [V.ref ra, .ref rb, .ref rc])) z3 (.tup ([V.int 1] ++ [V.ref ra, .ref rb, .ref rc]))) z3 ⟨1, m2.u, m2.lo, m2.hi⟩ := ⟨ra, rb, rc, upd_same, hra.same u6, hrb.same u6, hrc.same u6⟩
      have SF : S80 ⟨1, m2.u, m2.lo, m2.hi⟩ := ⟨by show (1 : Int) ≤ 1; decide, by show (1 : Int) ≤ 99; decide, S2.le, S2.u, S2.lo, S2.hi⟩
      generalize upd (upd G4 z2 (.tup [V.ref ra, .ref rb, .ref rc])) z3 (.tup ([V.int 1] ++ [V.ref ra, .ref rb, .ref rc])) = G6 at *
      have R6 := R3.same u6
      have a6 := u6 _ _ a3
      have w0 := q0.same u6
      have w1 := q1.same u6
      have w2 := q2.same u6
      have t6 := Tabs.same t3 u6
      have s06 : Same (off H p) G6 := fun x o z => u6 x o (s03 x o z)
      clear u6 e45 e5 u5 n3 n2 a4 et4 e4 u4 n1 et hra hrb hrc q0 q1 q2 t3 s03 a3 R3
      refine ⟨_, rfl, _, rfl, (by show 1 ≤ sizeLine; decide), fun l1 n1 => ?_⟩
      have u7 := same_new (o := .lst [V.ref z3]) n1
      have e7 : upd G6 l1 (.lst [V.ref z3]) l1 = some (.lst [V.ref z3]) := upd_same
      refine ⟨D, l1, _, _, rfl, rfl, u7 _ _ a6, e7, (by show 4 ≤ sizeLine; decide), fun l2 n2 => ?_⟩
      have u8 := u7.trans (same_new (o := .lst ([V.ref t0, .ref t1, .ref t2] ++ [V.ref z3])) n2)
      have e8 : upd (upd G6 l1 (.lst [V.ref z3])) l2 (.lst ([V.ref t0, .ref t1, .ref t2] ++ [V.ref z3])) l2 = some (.lst [V.ref t0, .ref t1, .ref t2, .ref z3]) := upd_same
      generalize upd (upd G6 l1 (.lst [V.ref z3])) l2 (.lst ([V.ref t0, .ref t1, .ref t2] ++ [V.ref z3])) = G8 at *
      have R8 := R6.same u8
      have a8 := u8 _ _ a6
      have t8 := Tabs.same t6 u8
      have s08 : Same (off H p) G8 := fun x o z => u8 x o (s06 x o z)
      have rows8 : ∀ v ∈ [V.ref t0, .ref t1, .ref t2, .ref z3], DrawnAt G8 v := by
        intro x hx
        simp only [List.mem_cons, List.not_mem_nil, or_false] at hx
        rcases hx with rfl | rfl | rfl | rfl
        · exact ⟨t0, m0, rfl, w0.same u8, S0⟩
        · exact ⟨t1, m1, rfl, w1.same u8, S1⟩
        · exact ⟨t2, m2, rfl, w2.same u8, S2⟩
        · exact ⟨z3, _, rfl, hf.same u8, SF⟩
      have w08 := w0.same u8
      clear u8 n2 e7 u7 n1 w0 w1 w2 hf s06 t6 a6 R6
      refine ⟨l2, rfl, ⟨_, SqL.of e8⟩, fun D3 n3 => ?_⟩
      have D3p : D3 ≠ p := R8.ne_new n3
      have lp8 : l2 ≠ p := fun z => by
        obtain ⟨x, y, ep, _⟩ := R8
        rw [z, ep] at e8
        cases e8
      refine lc_list (K := K) (a := l2) (xs := [V.ref t0, .ref t1, .ref t2, .ref z3]) (fun i G' => G' D3 = some (.lst (List.replicate i (.bl true))) ∧ LamX.ExtN (off G8 p) G' ∧ Rng G' p ∧ LamX.Tabs (tbs tbd tbr) G') ⟨upd_same, same_extN fun x o z => same_new n3 x o (off_some z).2, R8.same (same_new n3), Tabs.same t8 (same_new n3)⟩ (fun i G' _ ⟨_, s, _⟩ => SqL.of (s l2 _ (by rw [off_ne lp8]; exact e8) fun _ z => nomatch z)) ?_ ?_
      · rintro i x G' hx ⟨hD3, s3, R3, t3⟩
        have il := (List.getElem?_eq_some_iff.mp hx).1
        obtain ⟨t9, m9, rfl, hrow9, S9⟩ := ((rows8 x (List.mem_of_getElem? hx)).offR R8).ext s3
        refine ⟨rfl, ?_⟩
        refine ⟨_, rfl, _, rfl, p, t9, m9, rfl, R3, hrow9, S9, t3, fun G9 s4 R4 t4 => ?_⟩
        have hD4 := s4 D3 (.lst (List.replicate i (.bl true))) (by rw [off_ne D3p]; exact hD3) fun _ z => nomatch z
        refine ⟨_, hD4, (by rw [List.length_replicate, sizeLine_eq]; show i < _; have : i < 4 := il; omega), by rw [upd_same, List.replicate_succ'], fun y o z n => ?_, ?_, tabs_updL t4 hD4⟩
        · rw [upd_ne (ne_of_none (off_some z).2 n3)]
          exact s4 y o (by rw [off_ne (off_some z).1]; exact s3 y o z n) n
        · obtain ⟨x, y, ep, r⟩ := R4
          exact ⟨x, y, by rw [upd_ne D3p.symm]; exact ep, r⟩
      · rintro G' ⟨hD3, s3, R3, t3⟩
        refine ⟨D3, List.replicate 4 true, rfl, SqL.of (by rw [hD3, List.map_replicate]; rfl), _, rfl, ?_⟩
        have ea : (List.replicate 4 true).all id = true := by decide
        rw [ea]
        refine iteT ?_
        have a9 := s3 D (.lst [.ref t0, .ref t1, .ref t2]) (by rw [off_ne Dp_]; exact a8) fun _ z => nomatch z
        refine ⟨_, rfl, _, rfl, D, _, _, .ref t0, rfl, rfl, SqL.of a9, rfl, ?_⟩
        exact ⟨p, t0, m0, rfl, R3, (w08.offR R8).ext s3, S0, t3, fun G5 x5 t5 => k G5 (fun b o z n => x5 b o (by
          rw [off_ne (off_some z).1]
          exact s3 b o (by rw [off_ne (off_some z).1]; exact s08 b o z) n) n) t5⟩
def spLaw (K : PySem.W.Frag) (tbd tbr : Addr) : Sp := fun vs H Q _ => ∃ (a : Addr) (ns : List Int), vs = [.ref a] ∧ SqL K H a (ns.map V.int) ∧ ns.length ≤ 63 ∧ LamX.Tabs (tbs tbd tbr) H ∧ ∀ H', Q (.bl true) H'
theorem scLaw : FnScope ["_law_script", "_law_k"] ["_law_script"] (defScope sLaw) := ⟨rfl, rfl, rfl, by decide +kernel, rfl, by decide +kernel, by decide +kernel⟩
theorem ok_law {tbd tbr f : Addr} {fd : FuncData} (F : Fun K "law" "law" sLaw f fd) (M : Free mg) (rg : DefF P w K mg base "_law_rng" 1 ["_law_script", "_law_spot"] (spRng K)) (rt : DefG P w K mg base "_law_right" 12 ["_law_rng_here"] (spRight K tbd tbr)) :
    FnG P w K mg base CX0 13 f fd ["_law_script"] (spLaw K tbd tbr) := by
  obtain ⟨fG, fdG, GG, gG, bG, kG⟩ := rg
  obtain ⟨fR, fdR, GR, gR, bR, kR⟩ := rt
  refine Fun.okG F scLaw (fun vs H Q E h => ?_) (fun cdv A outer s H vs Q E gd hr h => ?_)
  · obtain ⟨a, ns, rfl, _⟩ := h
    rfl
  · obtain ⟨a, ns, rfl, hS, hn, tabs, k⟩ := h
    have hr1 : Room 1 _ := hr.mono (by decide)
    refine ⟨_, pss_one (ps_ret (pe_callB (cr_all rfl) (by rfl) M.all (by decide +kernel) (pa_cons (pe_lc (own := [("_law_k", 1)]) (g := gName 1) (tt := tYes) (te := tCall (spRight K tbd tbr) [] E0 (tCons (tCall (spRng K) [] E0 (tCons (tVar 0) (tCons (tVar 1) tNil))) tNil)) rfl scLaw.nd
      (pi_range1 (by rfl) M.range (pa_cons (pe_callB (call_max2 rfl) (by rfl) M.max (by decide +kernel) (pa_cons pe_int (pa_cons (pe_callB (call_min2 rfl) (by rfl) M.min (by decide +kernel) (pa_cons pe_int (pa_cons (pe_callB call_len_seq (by rfl) M.len PySem.boot_len (pa_cons (pv 0) pa_nil)) pa_nil))) pa_nil))) pa_nil))
      (blkOk_by (own := [("_law_k", 1)]) (N := ["_law_script", "_law_k"]) (sc := defScope sLaw) (by decide +kernel)) (fun _ _ _ _ _ => pg_name (i := 1) scLaw.nd rfl (Or.inl rfl)) (fun _ _ _ _ _ => pts_nil)
      (fun _ _ _ _ _ => by exact (pe_callG GR gd hr rfl gR kR bR .nil pass0 (pa_cons (pe_call GG hr1 rfl gG kG bG .nil pass0 (pa_cons (pv 0) (pa_cons (pv 1) pa_nil))) pa_nil)))) pa_nil))), ?_⟩
    refine ⟨_, rfl, _, _, rfl, .inl hS, ?_⟩
    rw [List.length_map]
    have bd : ∀ z : Int, 0 ≤ z → z ≤ 63 → 0 ≤ (if (if z < 6 then z else 6) > 1 then (if z < 6 then z else 6) else 1) ∧ (if (if z < 6 then z else 6) > 1 then (if z < 6 then z else 6) else 1) ≤ 6 := by
      intro z h0 h1
      split <;> split <;> omega
    have b := bd ns.length (by omega) (by omega)
    refine ⟨_, _, rfl, _, _, rfl, _, rfl, Int.le_trans (by decide) b.1, Int.lt_of_le_of_lt b.2 (by decide), fun D hD => ?_⟩
    generalize (if (if (ns.length : Int) < 6 then (ns.length : Int) else 6) > 1 then (if (ns.length : Int) < 6 then (ns.length : Int) else 6) else 1) = z at b ⊢
    refine lc_range (lo := 0) (n := z.toNat) (fun i G => G D = some (.lst (List.replicate i (.bl true))) ∧ LamX.ExtN H G ∧ LamX.Tabs (tbs tbd tbr) G) ⟨upd_same, same_extN (same_new hD), Tabs.same tabs (same_new hD)⟩ ?_ ?_
    · rintro i G hi ⟨h2, s2, t2⟩
      refine ⟨rfl, ?_⟩
      refine ⟨_, rfl, _, rfl, a, ns, _, rfl, sqL_ext hS s2, by omega, by omega, fun p G1 np s3 hp => ?_⟩
      refine ⟨p, rfl, hp, Tabs.same t2 s3, fun G2 x2 t3 => ?_⟩
      have x12 : LamX.ExtN G G2 := fun y o e n => x2 y o (by rw [off_ne (ne_of_none e np)]; exact s3 _ _ e) n
      have h3 := x12 _ _ h2 fun _ z => by cases z
      refine ⟨_, h3, (by rw [List.length_replicate, sizeLine_eq]; omega), ?_, fun y o e n => ?_, tabs_updL t3 h3⟩
      · rw [upd_same, List.replicate_succ']
      · rw [upd_ne (ne_of_none e hD)]
        exact x12 _ _ (s2 _ _ e n) n
    · rintro G ⟨h2, _, _⟩
      refine ⟨D, List.replicate z.toNat true, rfl, SqL.of (by rw [h2, List.map_replicate]), ?_⟩
      have e : (List.replicate z.toNat true).all id = true := by simp
      rw [e]
      exact k _
end
end K18
set_option maxHeartbeats 0
namespace K18
open PySem PySem.Spec PyProof.Rows L2 GL
structure HY (K T : PySem.W.Frag) (h : Heap) (mg : Str → Option Value) : Prop where
  X : K.In h
  XT : T.In h
  G : h.Ns mainGlobals mg
  D : He.SaysD fas fns K
  Dx : SaysX fxs K
  S : SysK K
  B : (chks K).all id = true
  tab : tabB2 K T (lamF K) = true
theorem HY.chk {K T : PySem.W.Frag} {h : Heap} {mg : Str → Option Value} (Y : HY K T h mg) (i : Nat) {b : Bool} (e : (chks K)[i]? = some b) : b = true := List.all_eq_true.mp Y.B b (List.mem_of_getElem? e)
theorem toR {P : Program} {w : World} {K : PySem.W.Frag} {mg : Str → Option Value} {base : Heap} {CX : CXT} {k : Nat} {f : Addr} {fd : FuncData} {ps : List Str} {sp : Sp} (F : FnOk P w K mg base CX k f fd ps sp) (hb : Binds K fd ps []) : FnR P w K mg base CX k f sp := (F.raw hb .nil).imp fun vs H Q E h => by rw [List.append_nil]; exact h
theorem mro_ok {K : PySem.W.Frag} {C : Addr} (h : mroB K C = true) : ∃ cd rest, PySem.W.clsIn K C = some cd ∧ cd.mro = .ref C :: rest := by
  unfold mroB at h
  split at h
  · rename_i cd e
    split at h
    · rename_i a rest em
      have ea : a = C := eq_of_beq h
      rw [ea] at em
      exact ⟨cd, rest, e, em⟩
    · cases h
  · cases h
section
variable {P : Program} {w : World} {K T : PySem.W.Frag} {h : Heap} {mg : Str → Option Value} {base : Heap}
theorem rf (Y : HY K T h mg) : RF K mg := { cl := (He.cls_ok (Y.D.fact 52 (f := .cls "Ratio") rfl)), nT := (He.noat_ok (Y.D.fact 53 (f := .noat "Ratio" "_top") rfl)), nB := (He.noat_ok (Y.D.fact 54 (f := .noat "Ratio" "_bottom") rfl)), kc := (He.eqO_ok (Y.chk 2 (b := He.eqO (PySem.W.findIn K (.ref (He.ga K "Ratio")) "__class__") (some (some (.builtin "object.__class__")))) rfl)), sp := (of_decide_eq_true (Y.chk 0 (b := decide (PySem.W.specialIn K (.builtin "object.__class__") "__get__" = some (some (.builtin "getset_descriptor.__get__")))) rfl)), tk := (of_decide_eq_true (Y.chk 1 (b := decide (PySem.W.takesIn K (.builtin "object.__class__") = some true)) rfl)), ob := (of_decide_eq_true (Y.chk 3 (b := decide (PySem.W.mroIn K (He.ga K "Ratio") (.type "object") = some true)) rfl)), gR := (He.glo_ok Y.X Y.G (Y.D.fact 7 (f := .glo "Ratio") rfl)), ki := (of_decide_eq_true (Y.chk 8 (b := decide (PySem.W.kitOne K (.ref (He.ga K "Ratio")) (.type "int") = some false)) rfl)), isi := (He.free_ok Y.X Y.G (Y.D.fact 36 (f := .free "isinstance") rfl)), int := (He.free_ok Y.X Y.G (Y.D.fact 37 (f := .free "int") rfl)), bool := (He.free_ok Y.X Y.G (Y.D.fact 38 (f := .free "bool") rfl)) }
theorem mf (Y : HY K T h mg) : MF K mg := { cl := (He.cls_ok (Y.D.fact 56 (f := .cls "Move") rfl)), nD := (He.noat_ok (Y.D.fact 57 (f := .noat "Move" "_divisor") rfl)), nP := (He.noat_ok (Y.D.fact 58 (f := .noat "Move" "_plus") rfl)), nL := (He.noat_ok (Y.D.fact 59 (f := .noat "Move" "_low") rfl)), nH := (He.noat_ok (Y.D.fact 60 (f := .noat "Move" "_high") rfl)), kc := (He.eqO_ok (Y.chk 5 (b := He.eqO (PySem.W.findIn K (.ref (He.ga K "Move")) "__class__") (some (some (.builtin "object.__class__")))) rfl)), sp := (of_decide_eq_true (Y.chk 0 (b := decide (PySem.W.specialIn K (.builtin "object.__class__") "__get__" = some (some (.builtin "getset_descriptor.__get__")))) rfl)), tk := (of_decide_eq_true (Y.chk 1 (b := decide (PySem.W.takesIn K (.builtin "object.__class__") = some true)) rfl)), ob := (of_decide_eq_true (Y.chk 6 (b := decide (PySem.W.mroIn K (He.ga K "Move") (.type "object") = some true)) rfl)), gM := (He.glo_ok Y.X Y.G (Y.D.fact 8 (f := .glo "Move") rfl)) }
theorem free_ (Y : HY K T h mg) : Free mg := { len := (He.free_ok Y.X Y.G (Y.D.fact 39 (f := .free "len") rfl)), abs := (He.free_ok Y.X Y.G (Y.D.fact 40 (f := .free "abs") rfl)), max := (He.free_ok Y.X Y.G (Y.D.fact 41 (f := .free "max") rfl)), min := (He.free_ok Y.X Y.G (Y.D.fact 42 (f := .free "min") rfl)), int := (He.free_ok Y.X Y.G (Y.D.fact 37 (f := .free "int") rfl)), divmod := (He.free_ok Y.X Y.G (Y.D.fact 43 (f := .free "divmod") rfl)), range := (He.free_ok Y.X Y.G (Y.D.fact 47 (f := .free "range") rfl)), all := (He.free_ok Y.X Y.G (Y.D.fact 46 (f := .free "all") rfl)), str := (He.free_ok Y.X Y.G (Y.D.fact 44 (f := .free "str") rfl)), list := (He.free_ok Y.X Y.G (Y.D.fact 45 (f := .free "list") rfl)), repr := (He.free_ok Y.X Y.G (Y.D.fact 49 (f := .free "repr") rfl)), any := (He.free_ok Y.X Y.G (Y.D.fact 50 (f := .free "any") rfl)) }
theorem ef (Y : HY K T h mg) : EF K mg := { xM := xcB_ok (Y.chk 27 (b := xcB K (He.ga K "InvalidMove") .ve) rfl), xC := xcB_ok (Y.chk 31 (b := xcB K (He.ga K "InvalidCount") .ve) rfl), xT := xcB_ok (Y.chk 35 (b := xcB K (He.ga K "TooMany") .ve) rfl), gM := (He.glo_ok Y.X Y.G (Y.D.fact 2 (f := .glo "InvalidMove") rfl)), gC := (He.glo_ok Y.X Y.G (Y.D.fact 3 (f := .glo "InvalidCount") rfl)), gT := (He.glo_ok Y.X Y.G (Y.D.fact 4 (f := .glo "TooMany") rfl)), nM := (He.eqO_ok (Y.chk 28 (b := He.eqO (PySem.W.findIn K (.ref (He.ga K "InvalidMove")) "part") (some none)) rfl)), nC := (He.eqO_ok (Y.chk 32 (b := He.eqO (PySem.W.findIn K (.ref (He.ga K "InvalidCount")) "value") (some none)) rfl)), nK := (He.eqO_ok (Y.chk 36 (b := He.eqO (PySem.W.findIn K (.ref (He.ga K "TooMany")) "kind") (some none)) rfl)), nL := (He.eqO_ok (Y.chk 39 (b := He.eqO (PySem.W.findIn K (.ref (He.ga K "TooMany")) "limit") (some none)) rfl)), mm := (of_decide_eq_true (Y.chk 41 (b := decide (PySem.W.exmOne K (.ref (He.ga K "InvalidMove")) (.ref (He.ga K "InvalidMove")) = some true)) rfl)), cm := (of_decide_eq_true (Y.chk 42 (b := decide (PySem.W.exmOne K (.ref (He.ga K "InvalidCount")) (.ref (He.ga K "InvalidMove")) = some false)) rfl)), cc := (of_decide_eq_true (Y.chk 43 (b := decide (PySem.W.exmOne K (.ref (He.ga K "InvalidCount")) (.ref (He.ga K "InvalidCount")) = some true)) rfl)), tm := (of_decide_eq_true (Y.chk 44 (b := decide (PySem.W.exmOne K (.ref (He.ga K "TooMany")) (.ref (He.ga K "InvalidMove")) = some false)) rfl)), tc := (of_decide_eq_true (Y.chk 45 (b := decide (PySem.W.exmOne K (.ref (He.ga K "TooMany")) (.ref (He.ga K "InvalidCount")) = some false)) rfl)), tt := (of_decide_eq_true (Y.chk 46 (b := decide (PySem.W.exmOne K (.ref (He.ga K "TooMany")) (.ref (He.ga K "TooMany")) = some true)) rfl)) }
theorem na (Y : HY K T h mg) : NA K := by
  refine ⟨fun n hn => ?_⟩
  · simp only [List.mem_cons, List.not_mem_nil, or_false] at hn
    rcases hn with rfl | rfl | rfl | rfl | rfl | rfl
    · exact (of_decide_eq_true (Y.chk 47 (b := decide (PySem.W.kitOne K (.type "NoneType") (.ref (He.ga K "Move")) = some false)) rfl))
    · exact (of_decide_eq_true (Y.chk 48 (b := decide (PySem.W.kitOne K (.type "str") (.ref (He.ga K "Move")) = some false)) rfl))
    · exact (of_decide_eq_true (Y.chk 49 (b := decide (PySem.W.kitOne K (.type "list") (.ref (He.ga K "Move")) = some false)) rfl))
    · exact (of_decide_eq_true (Y.chk 50 (b := decide (PySem.W.kitOne K (.type "tuple") (.ref (He.ga K "Move")) = some false)) rfl))
    · exact (of_decide_eq_true (Y.chk 51 (b := decide (PySem.W.kitOne K (.type "dict") (.ref (He.ga K "Move")) = some false)) rfl))
    · exact (of_decide_eq_true (Y.chk 52 (b := decide (PySem.W.kitOne K (.type "int") (.ref (He.ga K "Move")) = some false)) rfl))
theorem creadM (Y : HY K T h mg) : ClX.CRead K (aM K) (.type "type") := ⟨(Y.chk 24 (b := PySem.W.readsIn K (He.ga K "Move") (.type "type")) rfl), (He.eqO_ok (Y.chk 25 (b := He.eqO (PySem.W.specialIn K (.ref (He.ga K "Move")) "__getattribute__") (some (some (.builtin "type.__getattribute__")))) rfl))⟩
theorem own_add (Y : HY K T h mg) : OwnBin K (aR K) .Add (He.ma K (aR K) "__add__") := ⟨by exact (He.meth_ok (Y.D.fact 64 (f := .meth "Ratio" "__add__") rfl)), by exact (He.eqO_ok (Y.chk 10 (b := He.eqO (PySem.W.findIn K (.ref (He.ga K "Ratio")) "__radd__") (some none)) rfl)), mro_ok (Y.chk 13 (b := mroB K (He.ga K "Ratio")) rfl), (of_decide_eq_true (Y.chk 14 (b := decide (PySem.W.subIn K (.type "int") (.ref (He.ga K "Ratio")) = some false)) rfl))⟩
theorem own_sub (Y : HY K T h mg) : OwnBin K (aR K) .Sub (He.ma K (aR K) "__sub__") := ⟨by exact (He.meth_ok (Y.D.fact 65 (f := .meth "Ratio" "__sub__") rfl)), by exact (He.eqO_ok (Y.chk 11 (b := He.eqO (PySem.W.findIn K (.ref (He.ga K "Ratio")) "__rsub__") (some none)) rfl)), mro_ok (Y.chk 13 (b := mroB K (He.ga K "Ratio")) rfl), (of_decide_eq_true (Y.chk 14 (b := decide (PySem.W.subIn K (.type "int") (.ref (He.ga K "Ratio")) = some false)) rfl))⟩
theorem own_mul (Y : HY K T h mg) : OwnBin K (aR K) .Mult (He.ma K (aR K) "__mul__") := ⟨by exact (He.meth_ok (Y.D.fact 66 (f := .meth "Ratio" "__mul__") rfl)), by exact (He.eqO_ok (Y.chk 12 (b := He.eqO (PySem.W.findIn K (.ref (He.ga K "Ratio")) "__rmul__") (some none)) rfl)), mro_ok (Y.chk 13 (b := mroB K (He.ga K "Ratio")) rfl), (of_decide_eq_true (Y.chk 14 (b := decide (PySem.W.subIn K (.type "int") (.ref (He.ga K "Ratio")) = some false)) rfl))⟩
theorem creadR (Y : HY K T h mg) : ClX.CRead K (aR K) (.type "type") := ⟨(Y.chk 22 (b := PySem.W.readsIn K (He.ga K "Ratio") (.type "type")) rfl), (He.eqO_ok (Y.chk 23 (b := He.eqO (PySem.W.specialIn K (.ref (He.ga K "Ratio")) "__getattribute__") (some (some (.builtin "type.__getattribute__")))) rfl))⟩
theorem d_is_integer (Y : HY K T h mg) : ∃ fd, FunD K "is_integer" "is_integer" (defArgs (tp 11)) (defBody (tp 11)) (defScope (tp 11)) [] [] (He.ga K "is_integer") fd ∧ Binds K fd ["value"] [] := by
  obtain ⟨fd, F⟩ : ∃ fd, FunD K "is_integer" "is_integer" (defArgs (tp 11)) (defBody (tp 11)) (defScope (tp 11)) [] [] (He.ga K "is_integer") fd := Y.D.def_ 3 rfl
  exact ⟨fd, F, F.bindsN fun _ _ _ _ _ _ us hl => match us, hl with | [_], _ => rfl⟩
theorem d_is_number (Y : HY K T h mg) : ∃ fd, FunD K "is_number" "is_number" (defArgs (tp 13)) (defBody (tp 13)) (defScope (tp 13)) [] [] (He.ga K "is_number") fd ∧ Binds K fd ["value"] [] := by
  obtain ⟨fd, F⟩ : ∃ fd, FunD K "is_number" "is_number" (defArgs (tp 13)) (defBody (tp 13)) (defScope (tp 13)) [] [] (He.ga K "is_number") fd := Y.D.def_ 4 rfl
  exact ⟨fd, F, F.bindsN fun _ _ _ _ _ _ us hl => match us, hl with | [_], _ => rfl⟩
theorem d__check_divisor (Y : HY K T h mg) : ∃ fd, FunD K "_check_divisor" "_check_divisor" (defArgs (tp 19)) (defBody (tp 19)) (defScope (tp 19)) [] [] (He.ga K "_check_divisor") fd ∧ Binds K fd ["value"] [] := by
  obtain ⟨fd, F⟩ : ∃ fd, FunD K "_check_divisor" "_check_divisor" (defArgs (tp 19)) (defBody (tp 19)) (defScope (tp 19)) [] [] (He.ga K "_check_divisor") fd := Y.D.def_ 21 rfl
  exact ⟨fd, F, F.bindsN fun _ _ _ _ _ _ us hl => match us, hl with | [_], _ => rfl⟩
theorem d__check_part (Y : HY K T h mg) : ∃ fd, FunD K "_check_part" "_check_part" (defArgs (tp 20)) (defBody (tp 20)) (defScope (tp 20)) [] [] (He.ga K "_check_part") fd ∧ Binds K fd ["name", "value"] [] := by
  obtain ⟨fd, F⟩ : ∃ fd, FunD K "_check_part" "_check_part" (defArgs (tp 20)) (defBody (tp 20)) (defScope (tp 20)) [] [] (He.ga K "_check_part") fd := Y.D.def_ 22 rfl
  exact ⟨fd, F, F.bindsN fun _ _ _ _ _ _ us hl => match us, hl with | [_, _], _ => rfl⟩
theorem d__check_other (Y : HY K T h mg) : ∃ fd, FunD K "_check_other" "_check_other" (defArgs (tp 21)) (defBody (tp 21)) (defScope (tp 21)) [] [] (He.ga K "_check_other") fd ∧ Binds K fd ["value"] [] := by
  obtain ⟨fd, F⟩ : ∃ fd, FunD K "_check_other" "_check_other" (defArgs (tp 21)) (defBody (tp 21)) (defScope (tp 21)) [] [] (He.ga K "_check_other") fd := Y.D.def_ 23 rfl
  exact ⟨fd, F, F.bindsN fun _ _ _ _ _ _ us hl => match us, hl with | [_], _ => rfl⟩
theorem d__law_rng (Y : HY K T h mg) : ∃ fd, FunD K "_law_rng" "_law_rng" (defArgs (tp 23)) (defBody (tp 23)) (defScope (tp 23)) [] [] (He.ga K "_law_rng") fd ∧ Binds K fd ["_law_script", "_law_spot"] [] := by
  obtain ⟨fd, F⟩ : ∃ fd, FunD K "_law_rng" "_law_rng" (defArgs (tp 23)) (defBody (tp 23)) (defScope (tp 23)) [] [] (He.ga K "_law_rng") fd := Y.D.def_ 24 rfl
  exact ⟨fd, F, F.bindsN fun _ _ _ _ _ _ us hl => match us, hl with | [_, _], _ => rfl⟩
theorem d__law_draw (Y : HY K T h mg) : ∃ fd, FunD K "_law_draw" "_law_draw" (defArgs (tp 24)) (defBody (tp 24)) (defScope (tp 24)) [] [] (He.ga K "_law_draw") fd ∧ Binds K fd ["_law_rng_here", "_law_many"] [] := by
  obtain ⟨fd, F⟩ : ∃ fd, FunD K "_law_draw" "_law_draw" (defArgs (tp 24)) (defBody (tp 24)) (defScope (tp 24)) [] [] (He.ga K "_law_draw") fd := Y.D.def_ 25 rfl
  exact ⟨fd, F, F.bindsN fun _ _ _ _ _ _ us hl => match us, hl with | [_, _], _ => rfl⟩
theorem d__law_choice (Y : HY K T h mg) : ∃ fd, FunD K "_law_choice" "_law_choice" (defArgs (tp 25)) (defBody (tp 25)) (defScope (tp 25)) [] [] (He.ga K "_law_choice") fd ∧ Binds K fd ["_law_rng_here", "_law_some"] [] := by
  obtain ⟨fd, F⟩ : ∃ fd, FunD K "_law_choice" "_law_choice" (defArgs (tp 25)) (defBody (tp 25)) (defScope (tp 25)) [] [] (He.ga K "_law_choice") fd := Y.D.def_ 26 rfl
  exact ⟨fd, F, F.bindsN fun _ _ _ _ _ _ us hl => match us, hl with | [_, _], _ => rfl⟩
theorem d__law_plain (Y : HY K T h mg) : ∃ fd, FunD K "_law_plain" "_law_plain" (defArgs (tp 26)) (defBody (tp 26)) (defScope (tp 26)) [] [] (He.ga K "_law_plain") fd ∧ Binds K fd ["_law_top", "_law_bottom"] [] := by
  obtain ⟨fd, F⟩ : ∃ fd, FunD K "_law_plain" "_law_plain" (defArgs (tp 26)) (defBody (tp 26)) (defScope (tp 26)) [] [] (He.ga K "_law_plain") fd := Y.D.def_ 27 rfl
  exact ⟨fd, F, F.bindsN fun _ _ _ _ _ _ us hl => match us, hl with | [_, _], _ => rfl⟩
theorem d__law_sum (Y : HY K T h mg) : ∃ fd, FunD K "_law_sum" "_law_sum" (defArgs (tp 27)) (defBody (tp 27)) (defScope (tp 27)) [] [] (He.ga K "_law_sum") fd ∧ Binds K fd ["_law_near_here", "_law_far"] [] := by
  obtain ⟨fd, F⟩ : ∃ fd, FunD K "_law_sum" "_law_sum" (defArgs (tp 27)) (defBody (tp 27)) (defScope (tp 27)) [] [] (He.ga K "_law_sum") fd := Y.D.def_ 28 rfl
  exact ⟨fd, F, F.bindsN fun _ _ _ _ _ _ us hl => match us, hl with | [_, _], _ => rfl⟩
theorem d__law_less (Y : HY K T h mg) : ∃ fd, FunD K "_law_less" "_law_less" (defArgs (tp 28)) (defBody (tp 28)) (defScope (tp 28)) [] [] (He.ga K "_law_less") fd ∧ Binds K fd ["_law_near_here", "_law_far"] [] := by
  obtain ⟨fd, F⟩ : ∃ fd, FunD K "_law_less" "_law_less" (defArgs (tp 28)) (defBody (tp 28)) (defScope (tp 28)) [] [] (He.ga K "_law_less") fd := Y.D.def_ 29 rfl
  exact ⟨fd, F, F.bindsN fun _ _ _ _ _ _ us hl => match us, hl with | [_, _], _ => rfl⟩
theorem d__law_fraction (Y : HY K T h mg) : ∃ fd, FunD K "_law_fraction" "_law_fraction" (defArgs (tp 29)) (defBody (tp 29)) (defScope (tp 29)) [] [] (He.ga K "_law_fraction") fd ∧ Binds K fd ["_law_rng_here"] [] := by
  obtain ⟨fd, F⟩ : ∃ fd, FunD K "_law_fraction" "_law_fraction" (defArgs (tp 29)) (defBody (tp 29)) (defScope (tp 29)) [] [] (He.ga K "_law_fraction") fd := Y.D.def_ 30 rfl
  exact ⟨fd, F, F.bindsN fun _ _ _ _ _ _ us hl => match us, hl with | [_], _ => rfl⟩
theorem d__law_real (Y : HY K T h mg) : ∃ fd, FunD K "_law_real" "_law_real" (defArgs (tp 30)) (defBody (tp 30)) (defScope (tp 30)) [] [] (He.ga K "_law_real") fd ∧ Binds K fd ["_law_rng_here", "_law_part"] [] := by
  obtain ⟨fd, F⟩ : ∃ fd, FunD K "_law_real" "_law_real" (defArgs (tp 30)) (defBody (tp 30)) (defScope (tp 30)) [] [] (He.ga K "_law_real") fd := Y.D.def_ 31 rfl
  exact ⟨fd, F, F.bindsN fun _ _ _ _ _ _ us hl => match us, hl with | [_, _], _ => rfl⟩
theorem d__law_is (Y : HY K T h mg) : ∃ fd, FunD K "_law_is" "_law_is" (defArgs (tp 31)) (defBody (tp 31)) (defScope (tp 31)) [] [] (He.ga K "_law_is") fd ∧ Binds K fd ["_law_made_here", "_law_part"] [] := by
  obtain ⟨fd, F⟩ : ∃ fd, FunD K "_law_is" "_law_is" (defArgs (tp 31)) (defBody (tp 31)) (defScope (tp 31)) [] [] (He.ga K "_law_is") fd := Y.D.def_ 32 rfl
  exact ⟨fd, F, F.bindsN fun _ _ _ _ _ _ us hl => match us, hl with | [_, _], _ => rfl⟩
theorem d__law_over (Y : HY K T h mg) : ∃ fd, FunD K "_law_over" "_law_over" (defArgs (tp 32)) (defBody (tp 32)) (defScope (tp 32)) [] [] (He.ga K "_law_over") fd ∧ Binds K fd ["_law_near_here", "_law_far"] [] := by
  obtain ⟨fd, F⟩ : ∃ fd, FunD K "_law_over" "_law_over" (defArgs (tp 32)) (defBody (tp 32)) (defScope (tp 32)) [] [] (He.ga K "_law_over") fd := Y.D.def_ 33 rfl
  exact ⟨fd, F, F.bindsN fun _ _ _ _ _ _ us hl => match us, hl with | [_, _], _ => rfl⟩
theorem d__law_move (Y : HY K T h mg) : ∃ fd, FunD K "_law_move" "_law_move" (defArgs (tp 33)) (defBody (tp 33)) (defScope (tp 33)) [] [] (He.ga K "_law_move") fd ∧ Binds K fd ["_law_rng_here"] [] := by
  obtain ⟨fd, F⟩ : ∃ fd, FunD K "_law_move" "_law_move" (defArgs (tp 33)) (defBody (tp 33)) (defScope (tp 33)) [] [] (He.ga K "_law_move") fd := Y.D.def_ 34 rfl
  exact ⟨fd, F, F.bindsN fun _ _ _ _ _ _ us hl => match us, hl with | [_], _ => rfl⟩
theorem d__law_at (Y : HY K T h mg) : ∃ fd, FunD K "_law_at" "_law_at" (defArgs (tp 34)) (defBody (tp 34)) (defScope (tp 34)) [] [] (He.ga K "_law_at") fd ∧ Binds K fd ["_law_row", "_law_part"] [] := by
  obtain ⟨fd, F⟩ : ∃ fd, FunD K "_law_at" "_law_at" (defArgs (tp 34)) (defBody (tp 34)) (defScope (tp 34)) [] [] (He.ga K "_law_at") fd := Y.D.def_ 35 rfl
  exact ⟨fd, F, F.bindsN fun _ _ _ _ _ _ us hl => match us, hl with | [_, _], _ => rfl⟩
theorem d__law_made (Y : HY K T h mg) : ∃ fd, FunD K "_law_made" "_law_made" (defArgs (tp 35)) (defBody (tp 35)) (defScope (tp 35)) [] [] (He.ga K "_law_made") fd ∧ Binds K fd ["_law_rng_here", "_law_row"] [] := by
  obtain ⟨fd, F⟩ : ∃ fd, FunD K "_law_made" "_law_made" (defArgs (tp 35)) (defBody (tp 35)) (defScope (tp 35)) [] [] (He.ga K "_law_made") fd := Y.D.def_ 36 rfl
  exact ⟨fd, F, F.bindsN fun _ _ _ _ _ _ us hl => match us, hl with | [_, _], _ => rfl⟩
theorem d__law_is_move (Y : HY K T h mg) : ∃ fd, FunD K "_law_is_move" "_law_is_move" (defArgs (tp 36)) (defBody (tp 36)) (defScope (tp 36)) [] [] (He.ga K "_law_is_move") fd ∧ Binds K fd ["_law_made_here", "_law_row"] [] := by
  obtain ⟨fd, F⟩ : ∃ fd, FunD K "_law_is_move" "_law_is_move" (defArgs (tp 36)) (defBody (tp 36)) (defScope (tp 36)) [] [] (He.ga K "_law_is_move") fd := Y.D.def_ 37 rfl
  exact ⟨fd, F, F.bindsN fun _ _ _ _ _ _ us hl => match us, hl with | [_, _], _ => rfl⟩
theorem d__law_near (Y : HY K T h mg) : ∃ fd, FunD K "_law_near" "_law_near" (defArgs (tp 37)) (defBody (tp 37)) (defScope (tp 37)) [] [] (He.ga K "_law_near") fd ∧ Binds K fd ["_law_rng_here", "_law_row"] [] := by
  obtain ⟨fd, F⟩ : ∃ fd, FunD K "_law_near" "_law_near" (defArgs (tp 37)) (defBody (tp 37)) (defScope (tp 37)) [] [] (He.ga K "_law_near") fd := Y.D.def_ 38 rfl
  exact ⟨fd, F, F.bindsN fun _ _ _ _ _ _ us hl => match us, hl with | [_, _], _ => rfl⟩
theorem d__law_told (Y : HY K T h mg) : ∃ fd, FunD K "_law_told" "_law_told" (defArgs (tp 38)) (defBody (tp 38)) (defScope (tp 38)) [] [] (He.ga K "_law_told") fd ∧ Binds K fd ["_law_call"] [] := by
  obtain ⟨fd, F⟩ : ∃ fd, FunD K "_law_told" "_law_told" (defArgs (tp 38)) (defBody (tp 38)) (defScope (tp 38)) [] [] (He.ga K "_law_told") fd := Y.D.def_ 39 rfl
  exact ⟨fd, F, F.bindsN fun _ _ _ _ _ _ us hl => match us, hl with | [_], _ => rfl⟩
theorem d__law_then (Y : HY K T h mg) : ∃ fd, FunD K "_law_then" "_law_then" (defArgs (tp 39)) (defBody (tp 39)) (defScope (tp 39)) [] [] (He.ga K "_law_then") fd ∧ Binds K fd ["_law_row", "_law_further"] [] := by
  obtain ⟨fd, F⟩ : ∃ fd, FunD K "_law_then" "_law_then" (defArgs (tp 39)) (defBody (tp 39)) (defScope (tp 39)) [] [] (He.ga K "_law_then") fd := Y.D.def_ 40 rfl
  exact ⟨fd, F, F.bindsN fun _ _ _ _ _ _ us hl => match us, hl with | [_, _], _ => rfl⟩
theorem d__law_raised (Y : HY K T h mg) : ∃ fd, FunD K "_law_raised" "_law_raised" (defArgs (tp 40)) (defBody (tp 40)) (defScope (tp 40)) [] [] (He.ga K "_law_raised") fd ∧ Binds K fd ["_law_row", "_law_many"] [] := by
  obtain ⟨fd, F⟩ : ∃ fd, FunD K "_law_raised" "_law_raised" (defArgs (tp 40)) (defBody (tp 40)) (defScope (tp 40)) [] [] (He.ga K "_law_raised") fd := Y.D.def_ 41 rfl
  exact ⟨fd, F, F.bindsN fun _ _ _ _ _ _ us hl => match us, hl with | [_, _], _ => rfl⟩
theorem d__law_then_right (Y : HY K T h mg) : ∃ fd, FunD K "_law_then_right" "_law_then_right" (defArgs (tp 41)) (defBody (tp 41)) (defScope (tp 41)) [] [] (He.ga K "_law_then_right") fd ∧ Binds K fd ["_law_rng_here", "_law_rows"] [] := by
  obtain ⟨fd, F⟩ : ∃ fd, FunD K "_law_then_right" "_law_then_right" (defArgs (tp 41)) (defBody (tp 41)) (defScope (tp 41)) [] [] (He.ga K "_law_then_right") fd := Y.D.def_ 42 rfl
  exact ⟨fd, F, F.bindsN fun _ _ _ _ _ _ us hl => match us, hl with | [_, _], _ => rfl⟩
theorem d__law_done_right (Y : HY K T h mg) : ∃ fd, FunD K "_law_done_right" "_law_done_right" (defArgs (tp 42)) (defBody (tp 42)) (defScope (tp 42)) [] [] (He.ga K "_law_done_right") fd ∧ Binds K fd ["_law_rng_here", "_law_row"] [] := by
  obtain ⟨fd, F⟩ : ∃ fd, FunD K "_law_done_right" "_law_done_right" (defArgs (tp 42)) (defBody (tp 42)) (defScope (tp 42)) [] [] (He.ga K "_law_done_right") fd := Y.D.def_ 43 rfl
  exact ⟨fd, F, F.bindsN fun _ _ _ _ _ _ us hl => match us, hl with | [_, _], _ => rfl⟩
theorem d__law_refused_right (Y : HY K T h mg) : ∃ fd, FunD K "_law_refused_right" "_law_refused_right" (defArgs (tp 43)) (defBody (tp 43)) (defScope (tp 43)) [] [] (He.ga K "_law_refused_right") fd ∧ Binds K fd ["_law_rng_here", "_law_row"] [] := by
  obtain ⟨fd, F⟩ : ∃ fd, FunD K "_law_refused_right" "_law_refused_right" (defArgs (tp 43)) (defBody (tp 43)) (defScope (tp 43)) [] [] (He.ga K "_law_refused_right") fd := Y.D.def_ 44 rfl
  exact ⟨fd, F, F.bindsN fun _ _ _ _ _ _ us hl => match us, hl with | [_, _], _ => rfl⟩
theorem d__law_right (Y : HY K T h mg) : ∃ fd, FunD K "_law_right" "_law_right" (defArgs (tp 44)) (defBody (tp 44)) (defScope (tp 44)) [] [] (He.ga K "_law_right") fd ∧ Binds K fd ["_law_rng_here"] [] := by
  obtain ⟨fd, F⟩ : ∃ fd, FunD K "_law_right" "_law_right" (defArgs (tp 44)) (defBody (tp 44)) (defScope (tp 44)) [] [] (He.ga K "_law_right") fd := Y.D.def_ 45 rfl
  exact ⟨fd, F, F.bindsN fun _ _ _ _ _ _ us hl => match us, hl with | [_], _ => rfl⟩
theorem d_law (Y : HY K T h mg) : ∃ fd, FunD K "law" "law" (defArgs (tp 45)) (defBody (tp 45)) (defScope (tp 45)) [] [] (He.ga K "law") fd ∧ Binds K fd ["_law_script"] [] := by
  obtain ⟨fd, F⟩ : ∃ fd, FunD K "law" "law" (defArgs (tp 45)) (defBody (tp 45)) (defScope (tp 45)) [] [] (He.ga K "law") fd := Y.D.def_ 46 rfl
  exact ⟨fd, F, F.bindsN fun _ _ _ _ _ _ us hl => match us, hl with | [_], _ => rfl⟩
theorem d_InvalidMove_init (Y : HY K T h mg) : ∃ fd, FunD K "__init__" "InvalidMove.__init__" (defArgs (inClass (tp 5) 0)) (defBody (inClass (tp 5) 0)) (defScope (inClass (tp 5) 0)) [] [] (He.ma K (aIM K) "__init__") fd ∧ Binds K fd ["self", "part"] [] := by
  obtain ⟨fd, F⟩ : ∃ fd, FunD K "__init__" "InvalidMove.__init__" (defArgs (inClass (tp 5) 0)) (defBody (inClass (tp 5) 0)) (defScope (inClass (tp 5) 0)) [] [] (He.ma K (aIM K) "__init__") fd := Y.D.def_ 0 rfl
  exact ⟨fd, F, F.bindsN fun _ _ _ _ _ _ us hl => match us, hl with | [_, _], _ => rfl⟩
theorem d_InvalidCount_init (Y : HY K T h mg) : ∃ fd, FunD K "__init__" "InvalidCount.__init__" (defArgs (inClass (tp 6) 0)) (defBody (inClass (tp 6) 0)) (defScope (inClass (tp 6) 0)) [] [] (He.ma K (aIC K) "__init__") fd ∧ Binds K fd ["self", "value"] [] := by
  obtain ⟨fd, F⟩ : ∃ fd, FunD K "__init__" "InvalidCount.__init__" (defArgs (inClass (tp 6) 0)) (defBody (inClass (tp 6) 0)) (defScope (inClass (tp 6) 0)) [] [] (He.ma K (aIC K) "__init__") fd := Y.D.def_ 1 rfl
  exact ⟨fd, F, F.bindsN fun _ _ _ _ _ _ us hl => match us, hl with | [_, _], _ => rfl⟩
theorem d_TooMany_init (Y : HY K T h mg) : ∃ fd, FunD K "__init__" "TooMany.__init__" (defArgs (inClass (tp 7) 0)) (defBody (inClass (tp 7) 0)) (defScope (inClass (tp 7) 0)) [] [] (He.ma K (aTM K) "__init__") fd ∧ Binds K fd ["self", "kind", "limit"] [] := by
  obtain ⟨fd, F⟩ : ∃ fd, FunD K "__init__" "TooMany.__init__" (defArgs (inClass (tp 7) 0)) (defBody (inClass (tp 7) 0)) (defScope (inClass (tp 7) 0)) [] [] (He.ma K (aTM K) "__init__") fd := Y.D.def_ 2 rfl
  exact ⟨fd, F, F.bindsN fun _ _ _ _ _ _ us hl => match us, hl with | [_, _, _], _ => rfl⟩
theorem d_Ratio_init (Y : HY K T h mg) : ∃ fd, FunD K "__init__" "Ratio.__init__" (defArgs (sRatio 0)) (defBody (sRatio 0)) (defScope (sRatio 0)) [.int 1] [] (He.ma K (aR K) "__init__") fd := Y.D.def_ 5 rfl
theorem d_Ratio_is_below (Y : HY K T h mg) : ∃ fd, FunD K "is_below" "Ratio.is_below" (defArgs (sRatio 7)) (defBody (sRatio 7)) (defScope (sRatio 7)) [] [] (He.ma K (aR K) "is_below") fd ∧ Binds K fd ["self", "other"] [] := by
  obtain ⟨fd, F⟩ : ∃ fd, FunD K "is_below" "Ratio.is_below" (defArgs (sRatio 7)) (defBody (sRatio 7)) (defScope (sRatio 7)) [] [] (He.ma K (aR K) "is_below") fd := Y.D.def_ 6 rfl
  exact ⟨fd, F, F.bindsN fun _ _ _ _ _ _ us hl => match us, hl with | [_, _], _ => rfl⟩
theorem d_Ratio_over (Y : HY K T h mg) : ∃ fd, FunD K "over" "Ratio.over" (defArgs (sRatio 8)) (defBody (sRatio 8)) (defScope (sRatio 8)) [] [] (He.ma K (aR K) "over") fd ∧ Binds K fd ["self", "other"] [] := by
  obtain ⟨fd, F⟩ : ∃ fd, FunD K "over" "Ratio.over" (defArgs (sRatio 8)) (defBody (sRatio 8)) (defScope (sRatio 8)) [] [] (He.ma K (aR K) "over") fd := Y.D.def_ 7 rfl
  exact ⟨fd, F, F.bindsN fun _ _ _ _ _ _ us hl => match us, hl with | [_, _], _ => rfl⟩
theorem d_Ratio_add (Y : HY K T h mg) : ∃ fd, FunD K "__add__" "Ratio.__add__" (defArgs (sRatio 9)) (defBody (sRatio 9)) (defScope (sRatio 9)) [] [] (He.ma K (aR K) "__add__") fd ∧ Binds K fd ["self", "other"] [] := by
  obtain ⟨fd, F⟩ : ∃ fd, FunD K "__add__" "Ratio.__add__" (defArgs (sRatio 9)) (defBody (sRatio 9)) (defScope (sRatio 9)) [] [] (He.ma K (aR K) "__add__") fd := Y.D.def_ 8 rfl
  exact ⟨fd, F, F.bindsN fun _ _ _ _ _ _ us hl => match us, hl with | [_, _], _ => rfl⟩
theorem d_Ratio_sub (Y : HY K T h mg) : ∃ fd, FunD K "__sub__" "Ratio.__sub__" (defArgs (sRatio 10)) (defBody (sRatio 10)) (defScope (sRatio 10)) [] [] (He.ma K (aR K) "__sub__") fd ∧ Binds K fd ["self", "other"] [] := by
  obtain ⟨fd, F⟩ : ∃ fd, FunD K "__sub__" "Ratio.__sub__" (defArgs (sRatio 10)) (defBody (sRatio 10)) (defScope (sRatio 10)) [] [] (He.ma K (aR K) "__sub__") fd := Y.D.def_ 9 rfl
  exact ⟨fd, F, F.bindsN fun _ _ _ _ _ _ us hl => match us, hl with | [_, _], _ => rfl⟩
theorem d_Ratio_mul (Y : HY K T h mg) : ∃ fd, FunD K "__mul__" "Ratio.__mul__" (defArgs (sRatio 11)) (defBody (sRatio 11)) (defScope (sRatio 11)) [] [] (He.ma K (aR K) "__mul__") fd ∧ Binds K fd ["self", "other"] [] := by
  obtain ⟨fd, F⟩ : ∃ fd, FunD K "__mul__" "Ratio.__mul__" (defArgs (sRatio 11)) (defBody (sRatio 11)) (defScope (sRatio 11)) [] [] (He.ma K (aR K) "__mul__") fd := Y.D.def_ 10 rfl
  exact ⟨fd, F, F.bindsN fun _ _ _ _ _ _ us hl => match us, hl with | [_, _], _ => rfl⟩
theorem d_Ratio_eq (Y : HY K T h mg) : ∃ fd, FunD K "__eq__" "Ratio.__eq__" (defArgs (sRatio 13)) (defBody (sRatio 13)) (defScope (sRatio 13)) [] [] (He.ma K (aR K) "__eq__") fd ∧ Binds K fd ["self", "other"] [] := by
  obtain ⟨fd, F⟩ : ∃ fd, FunD K "__eq__" "Ratio.__eq__" (defArgs (sRatio 13)) (defBody (sRatio 13)) (defScope (sRatio 13)) [] [] (He.ma K (aR K) "__eq__") fd := Y.D.def_ 11 rfl
  exact ⟨fd, F, F.bindsN fun _ _ _ _ _ _ us hl => match us, hl with | [_, _], _ => rfl⟩
theorem d_Ratio_repr (Y : HY K T h mg) : ∃ fd, FunD K "__repr__" "Ratio.__repr__" (defArgs (sRatio 15)) (defBody (sRatio 15)) (defScope (sRatio 15)) [] [] (He.ma K (aR K) "__repr__") fd ∧ Binds K fd ["self"] [] := by
  obtain ⟨fd, F⟩ : ∃ fd, FunD K "__repr__" "Ratio.__repr__" (defArgs (sRatio 15)) (defBody (sRatio 15)) (defScope (sRatio 15)) [] [] (He.ma K (aR K) "__repr__") fd := Y.D.def_ 12 rfl
  exact ⟨fd, F, F.bindsN fun _ _ _ _ _ _ us hl => match us, hl with | [_], _ => rfl⟩
theorem d_Move_init (Y : HY K T h mg) : ∃ fd, FunD K "__init__" "Move.__init__" (defArgs (sMove 0)) (defBody (sMove 0)) (defScope (sMove 0)) [] [] (He.ma K (aM K) "__init__") fd ∧ Binds K fd ["self", "divisor", "plus", "low", "high"] [] := by
  obtain ⟨fd, F⟩ : ∃ fd, FunD K "__init__" "Move.__init__" (defArgs (sMove 0)) (defBody (sMove 0)) (defScope (sMove 0)) [] [] (He.ma K (aM K) "__init__") fd := Y.D.def_ 13 rfl
  exact ⟨fd, F, F.bindsN fun _ _ _ _ _ _ us hl => match us, hl with | [_, _, _, _, _], _ => rfl⟩
theorem d_Move_at (Y : HY K T h mg) : ∃ fd, FunD K "at" "Move.at" (defArgs (sMove 9)) (defBody (sMove 9)) (defScope (sMove 9)) [] [] (He.ma K (aM K) "at") fd ∧ Binds K fd ["self", "number"] [] := by
  obtain ⟨fd, F⟩ : ∃ fd, FunD K "at" "Move.at" (defArgs (sMove 9)) (defBody (sMove 9)) (defScope (sMove 9)) [] [] (He.ma K (aM K) "at") fd := Y.D.def_ 14 rfl
  exact ⟨fd, F, F.bindsN fun _ _ _ _ _ _ us hl => match us, hl with | [_, _], _ => rfl⟩
theorem d_Move_free (Y : HY K T h mg) : ∃ fd, FunD K "_free" "Move._free" (defArgs (sMove 10)) (defBody (sMove 10)) (defScope (sMove 10)) [] [] (He.ma K (aM K) "_free") fd ∧ Binds K fd ["self", "number"] [] := by
  obtain ⟨fd, F⟩ : ∃ fd, FunD K "_free" "Move._free" (defArgs (sMove 10)) (defBody (sMove 10)) (defScope (sMove 10)) [] [] (He.ma K (aM K) "_free") fd := Y.D.def_ 15 rfl
  exact ⟨fd, F, F.bindsN fun _ _ _ _ _ _ us hl => match us, hl with | [_, _], _ => rfl⟩
theorem d_Move_then (Y : HY K T h mg) : ∃ fd, FunD K "then" "Move.then" (defArgs (sMove 11)) (defBody (sMove 11)) (defScope (sMove 11)) [] [] (He.ma K (aM K) "then") fd ∧ Binds K fd ["self", "other"] [] := by
  obtain ⟨fd, F⟩ : ∃ fd, FunD K "then" "Move.then" (defArgs (sMove 11)) (defBody (sMove 11)) (defScope (sMove 11)) [] [] (He.ma K (aM K) "then") fd := Y.D.def_ 16 rfl
  exact ⟨fd, F, F.bindsN fun _ _ _ _ _ _ us hl => match us, hl with | [_, _], _ => rfl⟩
theorem d_Move_done (Y : HY K T h mg) : ∃ fd, FunD K "done" "Move.done" (defArgs (sMove 17)) (defBody (sMove 17)) (defScope (sMove 17)) [] [] (He.ma K (aM K) "done") fd ∧ Binds K fd ["self", "times"] [] := by
  obtain ⟨fd, F⟩ : ∃ fd, FunD K "done" "Move.done" (defArgs (sMove 17)) (defBody (sMove 17)) (defScope (sMove 17)) [] [] (He.ma K (aM K) "done") fd := Y.D.def_ 17 rfl
  exact ⟨fd, F, F.bindsN fun _ _ _ _ _ _ us hl => match us, hl with | [_, _], _ => rfl⟩
theorem d_Move_raised (Y : HY K T h mg) : ∃ fd, FunD K "_raised" "Move._raised" (defArgs (sMove 18)) (defBody (sMove 18)) (defScope (sMove 18)) [] [] (He.ma K (aM K) "_raised") fd ∧ Binds K fd ["self", "times"] [] := by
  obtain ⟨fd, F⟩ : ∃ fd, FunD K "_raised" "Move._raised" (defArgs (sMove 18)) (defBody (sMove 18)) (defScope (sMove 18)) [] [] (He.ma K (aM K) "_raised") fd := Y.D.def_ 18 rfl
  exact ⟨fd, F, F.bindsN fun _ _ _ _ _ _ us hl => match us, hl with | [_, _], _ => rfl⟩
theorem d_Move_held (Y : HY K T h mg) : ∃ fd, FunD K "_held" "Move._held" (defArgs (sMove 19)) (defBody (sMove 19)) (defScope (sMove 19)) [] [] (He.ma K (aM K) "_held") fd ∧ Binds K fd ["self", "ratio"] [] := by
  obtain ⟨fd, F⟩ : ∃ fd, FunD K "_held" "Move._held" (defArgs (sMove 19)) (defBody (sMove 19)) (defScope (sMove 19)) [] [] (He.ma K (aM K) "_held") fd := Y.D.def_ 19 rfl
  exact ⟨fd, F, F.bindsN fun _ _ _ _ _ _ us hl => match us, hl with | [_, _], _ => rfl⟩
theorem d_Move_eq (Y : HY K T h mg) : ∃ fd, FunD K "__eq__" "Move.__eq__" (defArgs (sMove 26)) (defBody (sMove 26)) (defScope (sMove 26)) [] [] (He.ma K (aM K) "__eq__") fd ∧ Binds K fd ["self", "other"] [] := by
  obtain ⟨fd, F⟩ : ∃ fd, FunD K "__eq__" "Move.__eq__" (defArgs (sMove 26)) (defBody (sMove 26)) (defScope (sMove 26)) [] [] (He.ma K (aM K) "__eq__") fd := Y.D.def_ 20 rfl
  exact ⟨fd, F, F.bindsN fun _ _ _ _ _ _ us hl => match us, hl with | [_, _], _ => rfl⟩
theorem d_Ratio_of (Y : HY K T h mg) : ∃ fd, FunD K "of" "Ratio.of" (defArgs (sRatio 1)) (defBody (sRatio 1)) (defScope (sRatio 1)) [] [] (wrapAt K (aR K) "of" "classmethod") fd ∧ Binds K fd ["cls", "number"] [] := by
  obtain ⟨fd, F⟩ : ∃ fd, FunD K "of" "Ratio.of" (defArgs (sRatio 1)) (defBody (sRatio 1)) (defScope (sRatio 1)) [] [] (wrapAt K (aR K) "of" "classmethod") fd := Y.Dx.def_ 0 rfl
  exact ⟨fd, F, F.bindsN fun _ _ _ _ _ _ us hl => match us, hl with | [_, _], _ => rfl⟩
theorem d_Ratio_top (Y : HY K T h mg) : ∃ fd, FunD K "top" "Ratio.top" (defArgs (sRatio 4)) (defBody (sRatio 4)) (defScope (sRatio 4)) [] [] (wrapAt K (aR K) "top" "property") fd ∧ Binds K fd ["self"] [] := by
  obtain ⟨fd, F⟩ : ∃ fd, FunD K "top" "Ratio.top" (defArgs (sRatio 4)) (defBody (sRatio 4)) (defScope (sRatio 4)) [] [] (wrapAt K (aR K) "top" "property") fd := Y.Dx.def_ 1 rfl
  exact ⟨fd, F, F.bindsN fun _ _ _ _ _ _ us hl => match us, hl with | [_], _ => rfl⟩
theorem d_Ratio_bottom (Y : HY K T h mg) : ∃ fd, FunD K "bottom" "Ratio.bottom" (defArgs (sRatio 5)) (defBody (sRatio 5)) (defScope (sRatio 5)) [] [] (wrapAt K (aR K) "bottom" "property") fd ∧ Binds K fd ["self"] [] := by
  obtain ⟨fd, F⟩ : ∃ fd, FunD K "bottom" "Ratio.bottom" (defArgs (sRatio 5)) (defBody (sRatio 5)) (defScope (sRatio 5)) [] [] (wrapAt K (aR K) "bottom" "property") fd := Y.Dx.def_ 2 rfl
  exact ⟨fd, F, F.bindsN fun _ _ _ _ _ _ us hl => match us, hl with | [_], _ => rfl⟩
theorem d_Move_divisor (Y : HY K T h mg) : ∃ fd, FunD K "divisor" "Move.divisor" (defArgs (sMove 5)) (defBody (sMove 5)) (defScope (sMove 5)) [] [] (wrapAt K (aM K) "divisor" "property") fd ∧ Binds K fd ["self"] [] := by
  obtain ⟨fd, F⟩ : ∃ fd, FunD K "divisor" "Move.divisor" (defArgs (sMove 5)) (defBody (sMove 5)) (defScope (sMove 5)) [] [] (wrapAt K (aM K) "divisor" "property") fd := Y.Dx.def_ 3 rfl
  exact ⟨fd, F, F.bindsN fun _ _ _ _ _ _ us hl => match us, hl with | [_], _ => rfl⟩
theorem d_Move_plus (Y : HY K T h mg) : ∃ fd, FunD K "plus" "Move.plus" (defArgs (sMove 6)) (defBody (sMove 6)) (defScope (sMove 6)) [] [] (wrapAt K (aM K) "plus" "property") fd ∧ Binds K fd ["self"] [] := by
  obtain ⟨fd, F⟩ : ∃ fd, FunD K "plus" "Move.plus" (defArgs (sMove 6)) (defBody (sMove 6)) (defScope (sMove 6)) [] [] (wrapAt K (aM K) "plus" "property") fd := Y.Dx.def_ 4 rfl
  exact ⟨fd, F, F.bindsN fun _ _ _ _ _ _ us hl => match us, hl with | [_], _ => rfl⟩
theorem d_Move_low (Y : HY K T h mg) : ∃ fd, FunD K "low" "Move.low" (defArgs (sMove 7)) (defBody (sMove 7)) (defScope (sMove 7)) [] [] (wrapAt K (aM K) "low" "property") fd ∧ Binds K fd ["self"] [] := by
  obtain ⟨fd, F⟩ : ∃ fd, FunD K "low" "Move.low" (defArgs (sMove 7)) (defBody (sMove 7)) (defScope (sMove 7)) [] [] (wrapAt K (aM K) "low" "property") fd := Y.Dx.def_ 5 rfl
  exact ⟨fd, F, F.bindsN fun _ _ _ _ _ _ us hl => match us, hl with | [_], _ => rfl⟩
theorem d_Move_high (Y : HY K T h mg) : ∃ fd, FunD K "high" "Move.high" (defArgs (sMove 8)) (defBody (sMove 8)) (defScope (sMove 8)) [] [] (wrapAt K (aM K) "high" "property") fd ∧ Binds K fd ["self"] [] := by
  obtain ⟨fd, F⟩ : ∃ fd, FunD K "high" "Move.high" (defArgs (sMove 8)) (defBody (sMove 8)) (defScope (sMove 8)) [] [] (wrapAt K (aM K) "high" "property") fd := Y.Dx.def_ 6 rfl
  exact ⟨fd, F, F.bindsN fun _ _ _ _ _ _ us hl => match us, hl with | [_], _ => rfl⟩
end
end K18
set_option maxHeartbeats 0
namespace K18
open PySem PySem.Spec PyProof.Rows L2 GL
theorem facts {P : Program} {w : World} {K T : PySem.W.Frag} {h : Heap} {mg : Str → Option Value} {f : Addr} (Y : HY K T h mg) (hfa : mg ("law" : Str) = some (.ref f)) :
    ∃ fd : FuncData, (∀ (s : Shared) (v : Value), BindsTo s fd ⟨[v], []⟩ [("_law_script", v)]) ∧ ∀ base : Heap, K.In base → base.Ns mainGlobals mg → (∀ x ∈ (lamF K).map (fun f => (codeAt K f, tabAt K (codeAt K f))), LamX.TabB base mg x.1 x.2) →
      FnG P w K mg base CX0 13 f fd ["_law_script"] (spLaw K (tabAt K (codeAt K (He.ga K "_law_done_right"))) (tabAt K (codeAt K (He.ga K "_law_refused_right")))) := by
  have T_ := rf Y
  have TM := mf Y
  have FR := free_ Y
  have ZE := ef Y
  have NN := na Y
  have tabs := List.all_eq_true.mp Y.tab
  obtain ⟨td1, td2⟩ := He.ba (tabs (He.ga K "_law_done_right") List.mem_cons_self)
  obtain ⟨_, _, hcodeD⟩ := codeB_ok Y.X td1
  obtain ⟨tr1, tr2⟩ := He.ba (tabs (He.ga K "_law_refused_right") (List.mem_cons_of_mem _ List.mem_cons_self))
  obtain ⟨_, _, hcodeR⟩ := codeB_ok Y.X tr1
  obtain ⟨fd_is_integer, D_is_integer, b_is_integer⟩ := d_is_integer Y
  have F_is_integer := fun_of (st := tp 11) D_is_integer
  have g_is_integer : mg "is_integer" = some (.ref (He.ga K "is_integer")) := (He.glo_ok Y.X Y.G (Y.D.fact 5 (f := .glo "is_integer") rfl))
  obtain ⟨fd_is_number, D_is_number, b_is_number⟩ := d_is_number Y
  have F_is_number := fun_of (st := tp 13) D_is_number
  have g_is_number : mg "is_number" = some (.ref (He.ga K "is_number")) := (He.glo_ok Y.X Y.G (Y.D.fact 6 (f := .glo "is_number") rfl))
  obtain ⟨fd_check_divisor, D_check_divisor, b_check_divisor⟩ := d__check_divisor Y
  have F_check_divisor := fun_of (st := tp 19) D_check_divisor
  have g_check_divisor : mg "_check_divisor" = some (.ref (He.ga K "_check_divisor")) := (He.glo_ok Y.X Y.G (Y.D.fact 9 (f := .glo "_check_divisor") rfl))
  obtain ⟨fd_check_part, D_check_part, b_check_part⟩ := d__check_part Y
  have F_check_part := fun_of (st := tp 20) D_check_part
  have g_check_part : mg "_check_part" = some (.ref (He.ga K "_check_part")) := (He.glo_ok Y.X Y.G (Y.D.fact 10 (f := .glo "_check_part") rfl))
  obtain ⟨fd_check_other, D_check_other, b_check_other⟩ := d__check_other Y
  have F_check_other := fun_of (st := tp 21) D_check_other
  have g_check_other : mg "_check_other" = some (.ref (He.ga K "_check_other")) := (He.glo_ok Y.X Y.G (Y.D.fact 11 (f := .glo "_check_other") rfl))
  obtain ⟨fd_lrng, D_lrng, b_lrng⟩ := d__law_rng Y
  have F_lrng := fun_of (st := tp 23) D_lrng
  have g_lrng : mg "_law_rng" = some (.ref (He.ga K "_law_rng")) := (He.glo_ok Y.X Y.G (Y.D.fact 12 (f := .glo "_law_rng") rfl))
  obtain ⟨fd_ldraw, D_ldraw, b_ldraw⟩ := d__law_draw Y
  have F_ldraw := fun_of (st := tp 24) D_ldraw
  have g_ldraw : mg "_law_draw" = some (.ref (He.ga K "_law_draw")) := (He.glo_ok Y.X Y.G (Y.D.fact 13 (f := .glo "_law_draw") rfl))
  obtain ⟨fd_lchoice, D_lchoice, b_lchoice⟩ := d__law_choice Y
  have F_lchoice := fun_of (st := tp 25) D_lchoice
  have g_lchoice : mg "_law_choice" = some (.ref (He.ga K "_law_choice")) := (He.glo_ok Y.X Y.G (Y.D.fact 14 (f := .glo "_law_choice") rfl))
  obtain ⟨fd_lplain, D_lplain, b_lplain⟩ := d__law_plain Y
  have F_lplain := fun_of (st := tp 26) D_lplain
  have g_lplain : mg "_law_plain" = some (.ref (He.ga K "_law_plain")) := (He.glo_ok Y.X Y.G (Y.D.fact 15 (f := .glo "_law_plain") rfl))
  obtain ⟨fd_lsum, D_lsum, b_lsum⟩ := d__law_sum Y
  have F_lsum := fun_of (st := tp 27) D_lsum
  have g_lsum : mg "_law_sum" = some (.ref (He.ga K "_law_sum")) := (He.glo_ok Y.X Y.G (Y.D.fact 16 (f := .glo "_law_sum") rfl))
  obtain ⟨fd_lless, D_lless, b_lless⟩ := d__law_less Y
  have F_lless := fun_of (st := tp 28) D_lless
  have g_lless : mg "_law_less" = some (.ref (He.ga K "_law_less")) := (He.glo_ok Y.X Y.G (Y.D.fact 17 (f := .glo "_law_less") rfl))
  obtain ⟨fd_lfraction, D_lfraction, b_lfraction⟩ := d__law_fraction Y
  have F_lfraction := fun_of (st := tp 29) D_lfraction
  have g_lfraction : mg "_law_fraction" = some (.ref (He.ga K "_law_fraction")) := (He.glo_ok Y.X Y.G (Y.D.fact 18 (f := .glo "_law_fraction") rfl))
  obtain ⟨fd_lreal, D_lreal, b_lreal⟩ := d__law_real Y
  have F_lreal := fun_of (st := tp 30) D_lreal
  have g_lreal : mg "_law_real" = some (.ref (He.ga K "_law_real")) := (He.glo_ok Y.X Y.G (Y.D.fact 19 (f := .glo "_law_real") rfl))
  obtain ⟨fd_lis, D_lis, b_lis⟩ := d__law_is Y
  have F_lis := fun_of (st := tp 31) D_lis
  have g_lis : mg "_law_is" = some (.ref (He.ga K "_law_is")) := (He.glo_ok Y.X Y.G (Y.D.fact 20 (f := .glo "_law_is") rfl))
  obtain ⟨fd_lover, D_lover, b_lover⟩ := d__law_over Y
  have F_lover := fun_of (st := tp 32) D_lover
  have g_lover : mg "_law_over" = some (.ref (He.ga K "_law_over")) := (He.glo_ok Y.X Y.G (Y.D.fact 21 (f := .glo "_law_over") rfl))
  obtain ⟨fd_lmove, D_lmove, b_lmove⟩ := d__law_move Y
  have F_lmove := fun_of (st := tp 33) D_lmove
  have g_lmove : mg "_law_move" = some (.ref (He.ga K "_law_move")) := (He.glo_ok Y.X Y.G (Y.D.fact 22 (f := .glo "_law_move") rfl))
  obtain ⟨fd_lat, D_lat, b_lat⟩ := d__law_at Y
  have F_lat := fun_of (st := tp 34) D_lat
  have g_lat : mg "_law_at" = some (.ref (He.ga K "_law_at")) := (He.glo_ok Y.X Y.G (Y.D.fact 23 (f := .glo "_law_at") rfl))
  obtain ⟨fd_lmade, D_lmade, b_lmade⟩ := d__law_made Y
  have F_lmade := fun_of (st := tp 35) D_lmade
  have g_lmade : mg "_law_made" = some (.ref (He.ga K "_law_made")) := (He.glo_ok Y.X Y.G (Y.D.fact 24 (f := .glo "_law_made") rfl))
  obtain ⟨fd_lis_move, D_lis_move, b_lis_move⟩ := d__law_is_move Y
  have F_lis_move := fun_of (st := tp 36) D_lis_move
  have g_lis_move : mg "_law_is_move" = some (.ref (He.ga K "_law_is_move")) := (He.glo_ok Y.X Y.G (Y.D.fact 25 (f := .glo "_law_is_move") rfl))
  obtain ⟨fd_lnear, D_lnear, b_lnear⟩ := d__law_near Y
  have F_lnear := fun_of (st := tp 37) D_lnear
  have g_lnear : mg "_law_near" = some (.ref (He.ga K "_law_near")) := (He.glo_ok Y.X Y.G (Y.D.fact 26 (f := .glo "_law_near") rfl))
  obtain ⟨fd_ltold, D_ltold, b_ltold⟩ := d__law_told Y
  have F_ltold := fun_of (st := tp 38) D_ltold
  have g_ltold : mg "_law_told" = some (.ref (He.ga K "_law_told")) := (He.glo_ok Y.X Y.G (Y.D.fact 27 (f := .glo "_law_told") rfl))
  obtain ⟨fd_lthen, D_lthen, b_lthen⟩ := d__law_then Y
  have F_lthen := fun_of (st := tp 39) D_lthen
  have g_lthen : mg "_law_then" = some (.ref (He.ga K "_law_then")) := (He.glo_ok Y.X Y.G (Y.D.fact 28 (f := .glo "_law_then") rfl))
  obtain ⟨fd_lraised, D_lraised, b_lraised⟩ := d__law_raised Y
  have F_lraised := fun_of (st := tp 40) D_lraised
  have g_lraised : mg "_law_raised" = some (.ref (He.ga K "_law_raised")) := (He.glo_ok Y.X Y.G (Y.D.fact 29 (f := .glo "_law_raised") rfl))
  obtain ⟨fd_lthen_right, D_lthen_right, b_lthen_right⟩ := d__law_then_right Y
  have F_lthen_right := fun_of (st := tp 41) D_lthen_right
  have g_lthen_right : mg "_law_then_right" = some (.ref (He.ga K "_law_then_right")) := (He.glo_ok Y.X Y.G (Y.D.fact 30 (f := .glo "_law_then_right") rfl))
  obtain ⟨fd_ldone_right, D_ldone_right, b_ldone_right⟩ := d__law_done_right Y
  have F_ldone_right := fun_of (st := tp 42) D_ldone_right
  have g_ldone_right : mg "_law_done_right" = some (.ref (He.ga K "_law_done_right")) := (He.glo_ok Y.X Y.G (Y.D.fact 31 (f := .glo "_law_done_right") rfl))
  obtain ⟨fd_lrefused_right, D_lrefused_right, b_lrefused_right⟩ := d__law_refused_right Y
  have F_lrefused_right := fun_of (st := tp 43) D_lrefused_right
  have g_lrefused_right : mg "_law_refused_right" = some (.ref (He.ga K "_law_refused_right")) := (He.glo_ok Y.X Y.G (Y.D.fact 32 (f := .glo "_law_refused_right") rfl))
  obtain ⟨fd_lright, D_lright, b_lright⟩ := d__law_right Y
  have F_lright := fun_of (st := tp 44) D_lright
  have g_lright : mg "_law_right" = some (.ref (He.ga K "_law_right")) := (He.glo_ok Y.X Y.G (Y.D.fact 33 (f := .glo "_law_right") rfl))
  obtain ⟨fd_law, D_law, b_law⟩ := d_law Y
  have F_law := fun_of (st := tp 45) D_law
  have g_law : mg "law" = some (.ref (He.ga K "law")) := (He.glo_ok Y.X Y.G (Y.D.fact 34 (f := .glo "law") rfl))
  obtain ⟨fd_InvalidMove_init, F_InvalidMove_init, b_InvalidMove_init⟩ := d_InvalidMove_init Y
  obtain ⟨fd_InvalidCount_init, F_InvalidCount_init, b_InvalidCount_init⟩ := d_InvalidCount_init Y
  obtain ⟨fd_TooMany_init, F_TooMany_init, b_TooMany_init⟩ := d_TooMany_init Y
  obtain ⟨fd_Ratio_init, F_Ratio_init⟩ := d_Ratio_init Y
  obtain ⟨fd_Ratio_is_below, F_Ratio_is_below, b_Ratio_is_below⟩ := d_Ratio_is_below Y
  obtain ⟨fd_Ratio_over, F_Ratio_over, b_Ratio_over⟩ := d_Ratio_over Y
  obtain ⟨fd_Ratio_add, F_Ratio_add, b_Ratio_add⟩ := d_Ratio_add Y
  obtain ⟨fd_Ratio_sub, F_Ratio_sub, b_Ratio_sub⟩ := d_Ratio_sub Y
  obtain ⟨fd_Ratio_mul, F_Ratio_mul, b_Ratio_mul⟩ := d_Ratio_mul Y
  obtain ⟨fd_Ratio_eq, F_Ratio_eq, b_Ratio_eq⟩ := d_Ratio_eq Y
  obtain ⟨fd_Ratio_repr, F_Ratio_repr, b_Ratio_repr⟩ := d_Ratio_repr Y
  obtain ⟨fd_Move_init, F_Move_init, b_Move_init⟩ := d_Move_init Y
  obtain ⟨fd_Move_at, F_Move_at, b_Move_at⟩ := d_Move_at Y
  obtain ⟨fd_Move_free, F_Move_free, b_Move_free⟩ := d_Move_free Y
  obtain ⟨fd_Move_then, F_Move_then, b_Move_then⟩ := d_Move_then Y
  obtain ⟨fd_Move_done, F_Move_done, b_Move_done⟩ := d_Move_done Y
  obtain ⟨fd_Move_raised, F_Move_raised, b_Move_raised⟩ := d_Move_raised Y
  obtain ⟨fd_Move_held, F_Move_held, b_Move_held⟩ := d_Move_held Y
  obtain ⟨fd_Move_eq, F_Move_eq, b_Move_eq⟩ := d_Move_eq Y
  obtain ⟨fd_Ratio_of, F_Ratio_of, b_Ratio_of⟩ := d_Ratio_of Y
  obtain ⟨fd_Ratio_top, F_Ratio_top, b_Ratio_top⟩ := d_Ratio_top Y
  obtain ⟨fd_Ratio_bottom, F_Ratio_bottom, b_Ratio_bottom⟩ := d_Ratio_bottom Y
  obtain ⟨fd_Move_divisor, F_Move_divisor, b_Move_divisor⟩ := d_Move_divisor Y
  obtain ⟨fd_Move_plus, F_Move_plus, b_Move_plus⟩ := d_Move_plus Y
  obtain ⟨fd_Move_low, F_Move_low, b_Move_low⟩ := d_Move_low Y
  obtain ⟨fd_Move_high, F_Move_high, b_Move_high⟩ := d_Move_high Y
  obtain ⟨dI, vI, bI, bI0⟩ := rInit_binds F_Ratio_init
  have e := hfa.symm.trans g_law
  cases e
  have hcR : fd_lrefused_right.code = .ref (codeAt K (He.ga K "_law_refused_right")) := by
    obtain ⟨oc, od, kV, doc, pm, an, cdv, ct, osl, e1, lk, _⟩ := F_lrefused_right.ex
    exact hcodeR _ _ _ _ lk
  have hcD : fd_ldone_right.code = .ref (codeAt K (He.ga K "_law_done_right")) := by
    obtain ⟨oc, od, kV, doc, pm, an, cdv, ct, osl, e1, lk, _⟩ := F_ldone_right.ex
    exact hcodeD _ _ _ _ lk
  refine ⟨fd_law, fun s v => ?_, fun base _ _ TBs => ?_⟩
  · exact FunD.bindsA (ps := ["_law_script"]) D_law (fun _ _ _ _ _ _ us hl => match us, hl with | [_], _ => rfl) s [v] rfl
  · have OI : FnOk P w K mg base CX0 1 _ fd_is_integer ["value"] (spIsInt K) := ok_isInt F_is_integer T_
    have ORI : FnOk P w K mg base CX0 2 _ fd_Ratio_init ["self", "top", "bottom"] (spRInit K) := ok_rInit F_Ratio_init T_ F_is_integer g_is_integer b_is_integer (PySem.W.mg_of Y.X Y.G (He.eqO_ok (Y.chk 26 (b := He.eqO (PySem.W.nsIn K mainGlobals "gcd") (some (some (.builtin "math.gcd")))) rfl)))
    have G : RG P w K mg base := ⟨T_, (of_decide_eq_true (Y.chk 9 (b := decide (PySem.W.kitOne K (.type "int") (.ref (He.ga K "Ratio")) = some false)) rfl)), ⟨_, _, OI, g_is_integer, b_is_integer, D_is_integer.kp⟩, ⟨_, _, dI, (He.mkr_ok (Y.D.fact 55 (f := .mkr "Ratio") rfl)), ORI, vI, bI, bI0⟩⟩
    have OOf : FnOk P w K mg base CX0 4 _ fd_Ratio_of ["cls", "number"] (spOf K) := ok_of F_Ratio_of G
    have Rh : RH P w K mg base := ⟨G, ⟨_, _, _, creadR Y, cmetB_ok (Y.chk 21 (b := cmetB K (He.ga K "Ratio") (.type "type") "of") rfl), toR OOf b_Ratio_of⟩⟩
    have OBl : FnOk P w K mg base CX0 5 _ fd_Ratio_is_below ["self", "other"] (spBelow K) := ok_below F_Ratio_is_below Rh
    have OOv : FnOk P w K mg base CX0 5 _ fd_Ratio_over ["self", "other"] (spBin K rOver fun _ r => r.num ≠ 0) := ok_over F_Ratio_over Rh
    have OAd : FnOk P w K mg base CX0 5 _ fd_Ratio_add ["self", "other"] (spBin K rAdd fun _ _ => True) := ok_rAdd F_Ratio_add Rh
    have OSb : FnOk P w K mg base CX0 5 _ fd_Ratio_sub ["self", "other"] (spBin K rSub fun _ _ => True) := ok_rSub F_Ratio_sub Rh
    have OMl : FnOk P w K mg base CX0 5 _ fd_Ratio_mul ["self", "other"] (spBin K rMul fun _ _ => True) := ok_rMul F_Ratio_mul Rh
    have OEq : FnOk P w K mg base CX0 1 _ fd_Ratio_eq ["self", "other"] (spREq K) := ok_rEq F_Ratio_eq T_
    have OIn : FnOk P w K mg base CX0 2 _ fd_is_number ["value"] (spIsNum K) := ok_isNum F_is_number T_ F_is_integer g_is_integer b_is_integer (of_decide_eq_true (Y.chk 9 (b := decide (PySem.W.kitOne K (.type "int") (.ref (He.ga K "Ratio")) = some false)) rfl))
    have I : RI P w K mg base := ⟨Rh, ⟨_, _, OIn, g_is_number, b_is_number, D_is_number.kp⟩, ⟨_, _, (He.meth_ok (Y.D.fact 62 (f := .meth "Ratio" "is_below") rfl)), OBl, b_Ratio_is_below⟩, ⟨_, ⟨(He.meth_ok (Y.D.fact 67 (f := .meth "Ratio" "__eq__") rfl)), (He.eqO_ok (Y.chk 4 (b := He.eqO (PySem.W.findIn K (.ref (He.ga K "Ratio")) "__ne__") (some (some (.builtin "object.__ne__")))) rfl)), (of_decide_eq_true (Y.chk 3 (b := decide (PySem.W.mroIn K (He.ga K "Ratio") (.type "object") = some true)) rfl))⟩, toR OEq b_Ratio_eq⟩, FR.len, (He.free_ok Y.X Y.G (Y.D.fact 48 (f := .free "tuple") rfl))⟩
    have J : RJ P w K mg base := ⟨I⟩
    have C : RK P w K mg base := ⟨J, ⟨_, own_add Y, toR OAd b_Ratio_add⟩, ⟨_, _, (He.meth_ok (Y.D.fact 63 (f := .meth "Ratio" "over") rfl)), OOv, b_Ratio_over⟩⟩
    have L : RL P w K mg base := ⟨C⟩
    have OCD : FnOk P w K mg base CX0 2 _ fd_check_divisor ["value"] spChkDiv := ok_chkDiv F_check_divisor G
    have OCP : FnOk P w K mg base CX0 3 _ fd_check_part ["name", "value"] (spChkPart K) := ok_chkPart F_check_part I
    have M : RM P w K mg base := ⟨L, TM, ⟨_, _, OCD, g_check_divisor, b_check_divisor, D_check_divisor.kp⟩, ⟨_, _, OCP, g_check_part, b_check_part, D_check_part.kp⟩⟩
    have OMI : FnOk P w K mg base CX0 6 _ fd_Move_init ["self", "divisor", "plus", "low", "high"] (spMInit K) := ok_mInit F_Move_init M
    have OFr : FnOk P w K mg base CX0 6 _ fd_Move_free ["self", "number"] (spFree K) := ok_free F_Move_free M
    have OHe : FnOk P w K mg base CX0 6 _ fd_Move_held ["self", "ratio"] (spHeld K) := ok_held F_Move_held M
    have OAt : FnOk P w K mg base CX0 7 _ fd_Move_at ["self", "number"] (spAt K) := ok_at F_Move_at M F_Move_free (He.meth_ok (Y.D.fact 70 (f := .meth "Move" "_free") rfl)) b_Move_free F_Move_held (He.meth_ok (Y.D.fact 74 (f := .meth "Move" "_held") rfl)) b_Move_held
    have OCO : FnOk P w K mg base CX0 1 _ fd_check_other ["value"] (spChkOther K) := ok_chkOther F_check_other M
    have N : RN P w K mg base := ⟨M, ⟨_, _, (He.mkr_ok (Y.D.fact 61 (f := .mkr "Move") rfl)), OMI, b_Move_init⟩, ⟨_, _, (He.meth_ok (Y.D.fact 70 (f := .meth "Move" "_free") rfl)), OFr, b_Move_free⟩, ⟨_, _, (He.meth_ok (Y.D.fact 74 (f := .meth "Move" "_held") rfl)), OHe, b_Move_held⟩, ⟨_, _, (He.meth_ok (Y.D.fact 69 (f := .meth "Move" "at") rfl)), OAt, b_Move_at⟩, ⟨_, own_mul Y, toR OMl b_Ratio_mul⟩, ⟨_, own_sub Y, toR OSb b_Ratio_sub⟩⟩
    have OTh : FnOk P w K mg base CX0 8 _ fd_Move_then ["self", "other"] (spThen K) := ok_then F_Move_then N F_check_other g_check_other b_check_other
    have OME : FnOk P w K mg base CX0 3 _ fd_Move_eq ["self", "other"] (spMEq K) := ok_mEq F_Move_eq M
    have Rd : RD P w K mg base := ⟨N, ⟨_, _, (He.meth_ok (Y.D.fact 74 (f := .meth "Move" "_held") rfl)), OHe, b_Move_held⟩⟩
    have ORs : FnOk P w K mg base CX0 9 _ fd_Move_raised ["self", "times"] (spRaised K) := ok_raised F_Move_raised Rd
    have Uo : RDo P w K mg base := ⟨Rd, ⟨_, _, (He.meth_ok (Y.D.fact 73 (f := .meth "Move" "_raised") rfl)), ORs, b_Move_raised⟩, ⟨_, _, (He.meth_ok (Y.D.fact 71 (f := .meth "Move" "then") rfl)), OTh, b_Move_then⟩, ⟨_, _, OI, g_is_integer, b_is_integer, D_is_integer.kp⟩, FR.range, (He.int_ok Y.X Y.G (Y.D.fact 35 (f := .int "MOST_TIMES" 100) rfl))⟩
    have ODn : FnOk P w K mg base CX0 10 _ fd_Move_done ["self", "times"] (spDone K) := ok_done F_Move_done Uo
    have OMd : FnOk P w K mg base CX0 1 _ fd_Move_divisor ["self"] (fun vs H Q _ => ∃ (s : Addr) (d : Int) (u lo hi : Rat), vs = [.ref s] ∧ MovAt K H s d u lo hi ∧ Q (.int d) H) := ok_mDiv F_Move_divisor TM
    have OMp : FnOk P w K mg base CX0 1 _ fd_Move_plus ["self"] (spMGet K fun u _ _ => u) := ok_mPlus F_Move_plus TM
    have OMl_ : FnOk P w K mg base CX0 1 _ fd_Move_low ["self"] (spMGet K fun _ l _ => l) := ok_mLow F_Move_low TM
    have OMh_ : FnOk P w K mg base CX0 1 _ fd_Move_high ["self"] (spMGet K fun _ _ h => h) := ok_mHigh F_Move_high TM
    have OTp : FnOk P w K mg base CX0 1 _ fd_Ratio_top ["self"] (fun vs H Q _ => ∃ (a : Addr) (q : Rat), vs = [.ref a] ∧ RatAt K H a q ∧ Q (.int q.num) H) := ok_top F_Ratio_top T_
    have OBt : FnOk P w K mg base CX0 1 _ fd_Ratio_bottom ["self"] (fun vs H Q _ => ∃ (a : Addr) (q : Rat), vs = [.ref a] ∧ RatAt K H a q ∧ Q (.int (q.den : Int)) H) := ok_bottom F_Ratio_bottom T_
    have Rr : RepF P w K mg base := ⟨_, _, (He.meth_ok (Y.D.fact 68 (f := .meth "Ratio" "__repr__") rfl)), ok_repr F_Ratio_repr T_, b_Ratio_repr⟩
    have OEM : FnOk P w K mg base CX0 1 _ fd_InvalidMove_init ["self", "part"] (spInit (aIM K) ["part"]) := ok_init1 (fun_of (st := inClass (tp 5) 0) F_InvalidMove_init) ZE.xM ZE.nM rfl ⟨rfl, rfl, rfl, by decide +kernel, rfl, by decide +kernel, by decide +kernel⟩ rfl rfl (by decide) (by decide)
    have OEC : FnOk P w K mg base CX0 1 _ fd_InvalidCount_init ["self", "value"] (spInit (aIC K) ["value"]) := ok_init1 (fun_of (st := inClass (tp 6) 0) F_InvalidCount_init) ZE.xC ZE.nC rfl ⟨rfl, rfl, rfl, by decide +kernel, rfl, by decide +kernel, by decide +kernel⟩ rfl rfl (by decide) (by decide)
    have OET : FnOk P w K mg base CX0 1 _ fd_TooMany_init ["self", "kind", "limit"] (spInit (aTM K) ["kind", "limit"]) := ok_init2 (fun_of (st := inClass (tp 7) 0) F_TooMany_init) ZE.xT ZE.nK ZE.nL rfl ⟨rfl, rfl, rfl, by decide +kernel, rfl, by decide +kernel, by decide +kernel⟩ rfl rfl rfl (by decide) (by decide) (by decide) (by decide)
    have EMx : EM P w K mg base := ⟨ZE, ⟨_, _, (He.eqO_ok (Y.chk 29 (b := He.eqO (PySem.W.findIn K (.ref (He.ga K "InvalidMove")) "__init__") (some (some (.ref (He.ma K (He.ga K "InvalidMove") "__init__"))))) rfl)), (of_decide_eq_true (Y.chk 30 (b := decide (PySem.W.typeIn K (.ref (He.ma K (He.ga K "InvalidMove") "__init__")) = some (.type "function"))) rfl)), OEM, b_InvalidMove_init⟩, ⟨_, _, (He.eqO_ok (Y.chk 33 (b := He.eqO (PySem.W.findIn K (.ref (He.ga K "InvalidCount")) "__init__") (some (some (.ref (He.ma K (He.ga K "InvalidCount") "__init__"))))) rfl)), (of_decide_eq_true (Y.chk 34 (b := decide (PySem.W.typeIn K (.ref (He.ma K (He.ga K "InvalidCount") "__init__")) = some (.type "function"))) rfl)), OEC, b_InvalidCount_init⟩, ⟨_, _, (He.eqO_ok (Y.chk 37 (b := He.eqO (PySem.W.findIn K (.ref (He.ga K "TooMany")) "__init__") (some (some (.ref (He.ma K (He.ga K "TooMany") "__init__"))))) rfl)), (of_decide_eq_true (Y.chk 38 (b := decide (PySem.W.typeIn K (.ref (He.ma K (He.ga K "TooMany") "__init__")) = some (.type "function"))) rfl)), OET, b_TooMany_init⟩⟩
    have ODX : FnOk P w K mg base (L2.CX P w) 4 _ fd_Move_done ["self", "times"] (spDoneX K) := ok_doneX F_Move_done Uo EMx
    have OCX : FnOk P w K mg base (L2.CX P w) 3 _ fd_check_other ["value"] (spChkOtherX K) := ok_chkOtherX F_check_other M EMx
    have OTX : FnOk P w K mg base (L2.CX P w) 4 _ fd_Move_then ["self", "other"] (spThenX K) := ok_thenX F_Move_then OCX g_check_other D_check_other.kp b_check_other
    have Lrng : FnOk P w K mg base CX0 1 _ fd_lrng ["_law_script", "_law_spot"] (spRng K) := ok_rng F_lrng FR
    have Ldraw : FnOk P w K mg base CX0 1 _ fd_ldraw ["_law_rng_here", "_law_many"] spDraw := ok_draw F_ldraw FR
    have Lchoice : FnOk P w K mg base CX0 2 _ fd_lchoice ["_law_rng_here", "_law_some"] (spChoice K) := ok_choice F_lchoice FR F_ldraw g_ldraw b_ldraw
    have Lplain : FnOk P w K mg base CX0 1 _ fd_lplain ["_law_top", "_law_bottom"] (spPlain K) := ok_plain F_lplain FR
    have Da : DA P w K mg base := ⟨FR, ⟨_, _, Ldraw, g_ldraw, b_ldraw, D_ldraw.kp⟩, ⟨_, _, Lchoice, g_lchoice, b_lchoice, D_lchoice.kp⟩, ⟨_, _, Lplain, g_lplain, b_lplain, D_lplain.kp⟩⟩
    have Lsum : FnOk P w K mg base CX0 2 _ fd_lsum ["_law_near_here", "_law_far"] (spSum K) := ok_sum F_lsum Da
    have Lless : FnOk P w K mg base CX0 1 _ fd_lless ["_law_near_here", "_law_far"] (spLess K) := ok_less F_lless
    have Lfrac : FnOk P w K mg base CX0 3 _ fd_lfraction ["_law_rng_here"] (spFrac K) := ok_frac F_lfraction Da
    have Lreal : FnOk P w K mg base CX0 4 _ fd_lreal ["_law_rng_here", "_law_part"] (spReal K) := ok_real F_lreal Da G
    have Lover : FnOk P w K mg base CX0 2 _ fd_lover ["_law_near_here", "_law_far"] (spOverL K) := ok_overL F_lover Da
    have Zi : IsF P w K mg base := ⟨N, Da, Y.S, ⟨_, _, _, propB_ok (Y.chk 15 (b := propB K (He.ga K "Ratio") "top") rfl), OTp, b_Ratio_top⟩, ⟨_, _, _, propB_ok (Y.chk 16 (b := propB K (He.ga K "Ratio") "bottom") rfl), OBt, b_Ratio_bottom⟩⟩
    have Lis : FnG P w K mg base CX0 3 _ fd_lis ["_law_made_here", "_law_part"] (spIs K) := ok_is F_lis Zi
    have Lmade : FnOk P w K mg base CX0 8 _ fd_lmade ["_law_rng_here", "_law_row"] (spMadeL K) := ok_made F_lmade N ⟨_, _, Lreal, g_lreal, b_lreal, D_lreal.kp⟩
    have Lat : FnOk P w K mg base CX0 3 _ fd_lat ["_law_row", "_law_part"] (spAtL K) := ok_atL F_lat ⟨_, _, Lsum, g_lsum, b_lsum, D_lsum.kp⟩ ⟨_, _, Lless, g_lless, b_lless, D_lless.kp⟩ ⟨_, _, Lover, g_lover, b_lover, D_lover.kp⟩
    have Mv : MvF P w K mg base := ⟨Zi, ⟨_, _, Lis, g_lis, b_lis, D_lis.kp⟩, ⟨_, _, _, propB_ok (Y.chk 17 (b := propB K (He.ga K "Move") "divisor") rfl), OMd, b_Move_divisor⟩, ⟨_, _, _, propB_ok (Y.chk 18 (b := propB K (He.ga K "Move") "plus") rfl), OMp, b_Move_plus⟩, ⟨_, _, _, propB_ok (Y.chk 19 (b := propB K (He.ga K "Move") "low") rfl), OMl_, b_Move_low⟩, ⟨_, _, _, propB_ok (Y.chk 20 (b := propB K (He.ga K "Move") "high") rfl), OMh_, b_Move_high⟩⟩
    have Lism : FnG P w K mg base CX0 4 _ fd_lis_move ["_law_made_here", "_law_row"] (spIsMove K) := ok_isMove F_lis_move Mv
    have Lmove : FnOk P w K mg base CX0 4 _ fd_lmove ["_law_rng_here"] (spMoveL K) := ok_moveL F_lmove Da ⟨_, _, Lless, g_lless, b_lless, D_lless.kp⟩ ⟨_, _, Lfrac, g_lfraction, b_lfraction, D_lfraction.kp⟩
    have Lnear : FnOk P w K mg base CX0 4 _ fd_lnear ["_law_rng_here", "_law_row"] (spNear K) := ok_near F_lnear Da ⟨_, _, Lsum, g_lsum, b_lsum, D_lsum.kp⟩ ⟨_, _, Lfrac, g_lfraction, b_lfraction, D_lfraction.kp⟩
    have Lthen : FnOk P w K mg base CX0 4 _ fd_lthen ["_law_row", "_law_further"] (spThenL K) := ok_thenL F_lthen Da ⟨_, _, Lsum, g_lsum, b_lsum, D_lsum.kp⟩ ⟨_, _, Lat, g_lat, b_lat, D_lat.kp⟩
    have Lrai : FnOk P w K mg base CX0 4 _ fd_lraised ["_law_row", "_law_many"] (spRaisedL K) := ok_raisedL F_lraised Da ⟨_, _, Lat, g_lat, b_lat, D_lat.kp⟩
    have Lt : LT P w K mg base := ⟨Mv, ⟨_, ⟨(He.meth_ok (Y.D.fact 75 (f := .meth "Move" "__eq__") rfl)), (He.eqO_ok (Y.chk 7 (b := He.eqO (PySem.W.findIn K (.ref (He.ga K "Move")) "__ne__") (some (some (.builtin "object.__ne__")))) rfl)), (of_decide_eq_true (Y.chk 6 (b := decide (PySem.W.mroIn K (He.ga K "Move") (.type "object") = some true)) rfl))⟩, toR OME b_Move_eq⟩, ⟨_, _, (He.meth_ok (Y.D.fact 71 (f := .meth "Move" "then") rfl)), OTh, b_Move_then⟩, ⟨_, _, Lreal, g_lreal, b_lreal, D_lreal.kp⟩, ⟨_, _, Lnear, g_lnear, b_lnear, D_lnear.kp⟩, ⟨_, _, Lat, g_lat, b_lat, D_lat.kp⟩, ⟨_, _, Lmade, g_lmade, b_lmade, D_lmade.kp⟩, ⟨_, _, Lthen, g_lthen, b_lthen, D_lthen.kp⟩, ⟨_, _, Lism, g_lis_move, b_lis_move, D_lis_move.kp⟩⟩
    have Lthr : FnG P w K mg base CX0 9 _ fd_lthen_right ["_law_rng_here", "_law_rows"] (spThenR K) := ok_thenR F_lthen_right Lt
    have Ld : LD P w K mg base := ⟨Lt, ZE, Rr, Da, ⟨_, _, F_ltold, g_ltold, b_ltold⟩, ⟨_, _, (He.meth_ok (Y.D.fact 72 (f := .meth "Move" "done") rfl)), ODn, b_Move_done⟩, ⟨_, _, (He.meth_ok (Y.D.fact 72 (f := .meth "Move" "done") rfl)), ODX, b_Move_done⟩, ⟨_, _, Lrai, g_lraised, b_lraised, D_lraised.kp⟩⟩
    have TBD := TBs (codeAt K (He.ga K "_law_done_right"), tabAt K (codeAt K (He.ga K "_law_done_right"))) List.mem_cons_self
    have TBR := TBs (codeAt K (He.ga K "_law_refused_right"), tabAt K (codeAt K (He.ga K "_law_refused_right"))) (List.mem_cons_of_mem _ List.mem_cons_self)
    have nt : tabAt K (codeAt K (He.ga K "_law_done_right")) ≠ tabAt K (codeAt K (He.ga K "_law_refused_right")) := by simpa using (Y.chk 40 (b := !(tabAt K (codeAt K (He.ga K "_law_done_right")) == tabAt K (codeAt K (He.ga K "_law_refused_right")))) rfl)
    have Ldo : FnG P w K mg base CX0 11 _ fd_ldone_right ["_law_rng_here", "_law_row"] (spDoneR K (tabAt K (codeAt K (He.ga K "_law_done_right"))) (tabAt K (codeAt K (He.ga K "_law_refused_right")))) := ok_doneR F_ldone_right hcD TBD nt Ld
    have Le : LE P w K mg base := ⟨Ld, NN, ⟨_, _, (He.meth_ok (Y.D.fact 71 (f := .meth "Move" "then") rfl)), OTX, b_Move_then⟩⟩
    have Lre : FnG P w K mg base CX0 11 _ fd_lrefused_right ["_law_rng_here", "_law_row"] (spRefused K (tabAt K (codeAt K (He.ga K "_law_done_right"))) (tabAt K (codeAt K (He.ga K "_law_refused_right")))) := ok_refused F_lrefused_right hcR TBR nt Le
    have Lz : LZ P w K mg base (tabAt K (codeAt K (He.ga K "_law_done_right"))) (tabAt K (codeAt K (He.ga K "_law_refused_right"))) := ⟨FR, ⟨_, _, Lmove, g_lmove, b_lmove, D_lmove.kp⟩, ⟨_, _, Lthr, g_lthen_right, b_lthen_right, D_lthen_right.kp⟩, ⟨_, _, Ldo, g_ldone_right, b_ldone_right, D_ldone_right.kp⟩, ⟨_, _, Lre, g_lrefused_right, b_lrefused_right, D_lrefused_right.kp⟩⟩
    have Lri : FnG P w K mg base CX0 12 _ fd_lright ["_law_rng_here"] (spRight K (tabAt K (codeAt K (He.ga K "_law_done_right"))) (tabAt K (codeAt K (He.ga K "_law_refused_right")))) := ok_right F_lright Lz
    exact ok_law F_law FR ⟨_, _, Lrng, g_lrng, b_lrng, D_lrng.kp⟩ ⟨_, _, Lri, g_lright, b_lright, D_lright.kp⟩
end K18
set_option maxHeartbeats 4000000
/-! The end of a law whose promise asks the units' guards and a table of lambdas. -/
namespace GL
open PySem PySem.Spec PyProof.Rows L2
theorem law_callT2 {P : Program} {w : World} {K : PySem.W.Frag} {mg mb : Str → Option Value} {k : Nat} {fa a : Addr} {L : List (Addr × Addr)} {fd : FuncData} {x : Str} {sp : Sp} {s₁ : Shared} {vs : List Value} {ns : List Int}
    (KX : K.In s₁.heap) (hns : s₁.heap.Ns mainGlobals mg) (hb : s₁.heap.Ns builtinsNs mb) (hbb : ∀ x : Str, x ≠ "__name__" → mb x = bootBuiltins x) (hlim : s₁.heap.NoLimit) (hg : s₁.gens = #[])
    (tab : ∀ tb ∈ L.map Prod.snd, s₁.heap.get? tb = some { cls := .none, data := .fields #[] }) (noK : ∀ tb ∈ L.map Prod.snd, K.lookup tb = none) (code : ∀ x ∈ L, PySem.W.CodeHd s₁.heap x.1 x.2)
    (hbm : ∃ (bm : Addr) (ob : Obj), mg "__builtins__" = some (.ref bm) ∧ bm ≠ builtinsNs ∧ s₁.heap.get? bm = some ob ∧ ob.cls = .type "module" ∧ ob.dict = some builtinsNs ∧ ob.data = .plain)
    (ha : s₁.heap.get? a = some { cls := .type "list", data := .seq vs.toArray }) (hi : IntsAre vs ns) (hl : ns.length ≤ sizeLine) (hr : Room k callerA)
    (F : ∀ base : Heap, K.In base → base.Ns mainGlobals mg → (∀ x ∈ L, LamX.TabB base mg x.1 x.2) → FnG P w K mg base CX0 k fa fd [x] sp) (hbind : ∀ (s : Shared) (u : Value), BindsTo s fd ⟨[u], []⟩ [(x, u)])
    (hsp : ∀ H : Hp, (∀ tb ∈ L.map Prod.snd, H tb = some (.tbl #[])) → SqL K H a (ns.map V.int) → sp [.ref a] H (fun v _ => v = .bl true) E0) :
    codeAny (model P w) callerA (.call (.ref fa) ⟨[.ref a], []⟩) (fun r s' => r = .ok (.ret (.bool true)) ∧ OldK s₁.heap s'.heap ∧ s'.os = s₁.os ∧ AllBare s'.gens) s₁ := by
  have rv := vals_ints hi
  have atb : a ∉ L.map Prod.snd := fun z => by
    rw [tab _ z] at ha
    cases ha
  have main : ∀ H : Hp, (∀ tb ∈ L.map Prod.snd, H tb = some (.tbl #[])) → (∀ b u, b ∉ L.map Prod.snd → H b = some u → b = a ∧ K.lookup a = none ∧ ∃ o xs, u = .frz o (.lst xs)) → SqL K H a (ns.map V.int) → HOk P w H s₁.heap →
      codeAny (model P w) callerA (.call (.ref fa) ⟨[.ref a], []⟩) (fun r s' => r = .ok (.ret (.bool true)) ∧ OldK s₁.heap s'.heap ∧ s'.os = s₁.os ∧ AllBare s'.gens) s₁ := by
    intro H ht ours sq hok
    have stays : ∀ {b : Addr} {o : Obj}, s₁.heap.get? b = some o → H b = none → (hidT s₁.heap H).get? b = some o := fun e n => hidT_get e n
    -- what is neither the script nor the table isn't tracked
    have free : ∀ {b : Addr} {o : Obj}, s₁.heap.get? b = some o → (∀ us n, o.data ≠ .seq us n) → o.data ≠ .fields #[] → H b = none := by
      intro b o e n1 n2
      cases q : H b with
      | none => rfl
      | some u =>
        by_cases hb : b ∈ L.map Prod.snd
        · rw [tab _ hb] at e
          cases e
          exact absurd rfl n2
        · cases (ours b u hb q).1
          rw [ha] at e
          cases e
          exact absurd rfl (n1 _ _)
    have spaces : ∀ {b : Addr} {m : Str → Option Value}, s₁.heap.Ns b m → (hidT s₁.heap H).Ns b m := fun {b m} ⟨o, es, ep, e, d, r⟩ => ⟨o, es, ep, stays e (free e (fun us n z => by rw [d] at z; cases z) fun z => by rw [d] at z; cases z), d, r⟩
    have kin : K.In (hidT s₁.heap H) := by
      intro b o e
      refine stays (KX b o e) ?_
      cases q : H b with
      | none => rfl
      | some u =>
        by_cases hb : b ∈ L.map Prod.snd
        · rw [noK _ hb] at e
          cases e
        · obtain ⟨rfl, z, _⟩ := ours b u hb q
          rw [z] at e
          cases e
    have md : Mod K mg (hidT s₁.heap H) := ⟨kin, spaces hns, ⟨mb, spaces hb, hbb⟩, let ⟨mc, h1, h2⟩ := hlim; ⟨mc, spaces h1, h2⟩⟩
    have TB : ∀ x ∈ L, LamX.TabB (hidT s₁.heap H) mg x.1 x.2 := by
      intro x hx
      have hx2 : x.2 ∈ L.map Prod.snd := List.mem_map.mpr ⟨x, hx, rfl⟩
      refine ⟨?_, ?_, fun z => ?_⟩
      · obtain ⟨o, us, file, tf, flags, tg, inF, text, tt, e1, r1, r2, r3, r⟩ := code x hx
        refine ⟨o, us, file, tf, flags, tg, inF, text, tt, stays e1 (free e1 (fun us n z => by rw [r2] at z; cases z) fun z => ?_), r1, r2, r3, r⟩
        rw [r2] at z
        cases z
        simp at r3
      · obtain ⟨bm, ob, b1, b2, b3, b4, b5, b6⟩ := hbm
        have n1 : bm ≠ mainGlobals := fun q => by
          obtain ⟨o, es, ep, e, d, _⟩ := hns
          rw [q, e] at b3
          cases b3
          rw [d] at b6
          cases b6
        have n2 : bm ≠ x.2 := fun q => by
          rw [q, tab _ hx2] at b3
          cases b3
          cases b6
        exact ⟨bm, ob, b1, b2, n1, n2, stays b3 (free b3 (fun us n z => by rw [b6] at z; cases z) fun z => by rw [b6] at z; cases z), b4, b5, b6⟩
      · obtain ⟨o, es, ep, e, d, _⟩ := hns
        rw [z, tab _ hx2] at e
        cases e
        cases d
    have nofr : ∀ b ∈ frs ([] : List Env), H b = none := fun b z => nomatch z
    have e0 : Env0 P w K mg (hidT s₁.heap H) callerA [] s₁ H := ⟨rfl, md, fun b o e => of_hidT e, Nat.le_of_eq (hidT_size _ _), trivial, nofr, hok, .of_eq hg⟩
    refine codeAny_mono ((F _ kin (spaces hns) TB).go callerA [] s₁ H ⟨[.ref a], []⟩ [.ref a] [.ref a] _ _ rfl hr e0 (hbind s₁ (.ref a)) (.cons rfl .nil) (hsp H ht sq)) ?_
    intro r s' h
    match r, h with
    | .error e, h => exact False.elim h
    | .ok .next, h => exact False.elim h
    | .ok .brk, h => exact False.elim h
    | .ok .cont, h => exact False.elim h
    | .ok (.ret u), h =>
      obtain ⟨v, H', os, bare, un, hok', r', rfl⟩ := h
      cases (show u = Value.bool true from r')
      have other : ∀ b o, b ∉ L.map Prod.snd → s₁.heap.get? b = some o → s'.heap.get? b = some o := by
        intro b o hb e
        cases q : H b with
        | none => exact un.keep b o e q (fun z => nomatch z) (fun z => nomatch z)
        | some u =>
          obtain ⟨_, _, ob, xs, rfl⟩ := ours b u hb q
          have e1 := (hok b _ q).1
          have e2 := (hok' b _ (un.frzs b ob _ q)).1
          rw [e] at e1
          cases e1
          exact e2
      have grow : ∀ tb ∈ L.map Prod.snd, ∃ more : Array Value, s'.heap.get? tb = some { cls := .none, data := .fields more } := fun tb htb => by
        obtain ⟨more, grown⟩ := un.tbls tb #[] (ht tb htb)
        have grown : s'.heap.get? tb = some { cls := .none, data := .fields (#[] ++ more) } := hok' tb _ grown
        rw [Array.empty_append] at grown
        exact ⟨more, grown⟩
      refine ⟨rfl, ⟨fun b o e => ?_, fun b o e => ?_⟩, os, bare⟩
      · by_cases hb : b ∈ L.map Prod.snd
        · rw [tab _ hb] at e
          cases e
          obtain ⟨more, grown⟩ := grow b hb
          obtain ⟨x, hx, ex⟩ := List.mem_map.mp hb
          have tx := tab _ hb
          rw [← ex] at tx
          have it := ((code x hx).tab tx).isCodeTable
          rw [ex] at it
          exact .inr (.inl ⟨it, rfl, #[], more, rfl, by rw [Array.empty_append]; exact grown⟩)
        · exact .inl (other b o hb e)
      · by_cases hb : b ∈ L.map Prod.snd
        · obtain ⟨more, grown⟩ := grow b hb
          exact ⟨_, grown⟩
        · exact ⟨o, other b o hb e⟩
  cases hk : K.lookup a with
  | some o =>
    have e := KX a o hk
    rw [ha] at e
    cases e
    refine main (fun b => if b ∈ L.map Prod.snd then some (.tbl #[]) else none) (fun _ hb => if_pos hb) (fun b u hb z => ?_) (.inr ⟨_, vs.toArray, _, hk, rfl, rfl, rfl, ?_, by simpa using rv⟩) fun b u z => ?_
    · rw [if_neg hb] at z
      cases z
    · rw [List.size_toArray, hi.length]
      exact hl
    · by_cases hb : b ∈ L.map Prod.snd
      · have z' := (if_pos hb).symm.trans z
        cases z'
        exact tab _ hb
      · have z' := (if_neg hb).symm.trans z
        cases z'
  | none =>
    refine main (fun b => if b ∈ L.map Prod.snd then some (.tbl #[]) else if b = a then some (HO.frz { cls := .type "list", data := .seq vs.toArray } (.lst (ns.map V.int))) else none) (fun _ hb => if_pos hb) (fun b u hb z => ?_) (.inl (.inr ⟨{ cls := .type "list", data := .seq vs.toArray }, ?_⟩)) fun b u z => ?_
    · have z1 := (if_neg hb).symm.trans z
      by_cases h : b = a
      · have z2 := (if_pos h).symm.trans z1
        exact ⟨h, hk, _, _, (Option.some.inj z2).symm⟩
      · have z2 := (if_neg h).symm.trans z1
        cases z2
    · exact (if_neg atb).trans (if_pos rfl)
    · by_cases hb : b ∈ L.map Prod.snd
      · have z' := (if_pos hb).symm.trans z
        cases z'
        exact tab _ hb
      · have z1 := (if_neg hb).symm.trans z
        by_cases h : b = a
        · have z2 := (if_pos h).symm.trans z1
          cases z2
          rw [h]
          exact ⟨ha, by rw [List.length_map]; exact hl, vs, _, rv, ha⟩
        · have z2 := (if_neg h).symm.trans z1
          cases z2
theorem walk_T2 {l : PySem.W.OpenLaw} {n k : Nat} {q : Program} {loose : List Str} {XP : (Str → Option Value) → Heap → Prop} {YP : World → Heap → Prop} {d : DefRec} {x : Str}
    (hn : l.most = some n) (hn2 : n ≤ sizeLine) (hdf : d.params.defaults = []) (hr : Room k callerA)
    (F : ∀ (w : World) (mg : Str → Option Value) (fa : Addr) (h : Heap), YP w h → h.Ns mainGlobals mg → mg d.name = some (.ref fa) →
      ∃ (K : PySem.W.Frag) (L : List (Addr × Addr)) (fd : FuncData) (sp : Sp), K.In h ∧ (∀ tb ∈ L.map Prod.snd, h.get? tb = some { cls := .none, data := .fields #[] }) ∧ (∀ tb ∈ L.map Prod.snd, K.lookup tb = none) ∧ (∀ x ∈ L, PySem.W.CodeHd h x.1 x.2) ∧ (∀ (s : Shared) (u : Value), BindsTo s fd ⟨[u], []⟩ [(x, u)]) ∧
        (∀ (H : Hp) (a : Addr) (ns : List Int), ns.length ≤ n → (∀ tb ∈ L.map Prod.snd, H tb = some (.tbl #[])) → SqL K H a (ns.map V.int) → sp [.ref a] H (fun v _ => v = .bl true) E0) ∧
        ∀ base : Heap, K.In base → base.Ns mainGlobals mg → (∀ x ∈ L, LamX.TabB base mg x.1 x.2) → FnG l.prog w K mg base CX0 k fa fd [x] sp) :
    PySem.W.WalkO q loose XP YP l.row.toRowW d [] (fun f vs => PySem.call f vs) := by
  apply Att.attach_callB hn hdf
  intro w s₀ s₁ mg mb fa o pm cd doc a vs ns G Y ho hd hcd hmg hobj hints hlen hbits hg
  obtain ⟨K, L, fd, sp, KX, t1, t2, t3, hb, hsp, hF⟩ := F w mg fa _ Y G.T.g hmg
  exact law_callT2 KX G.T.g G.T.b G.T.builtins G.T.nolimit hg t1 t2 t3 G.T.bmain hobj hints (Nat.le_trans hlen hn2) hr hF hb fun H ht sq => hsp H a ns hlen ht sq
end GL
set_option maxHeartbeats 0
open PySem PySem.W PySem.Calls PyProof.Rows
theorem PySem.Challenge.cw_fademodes_k13_whole_moves_behind_one_ano_holds : PySem.Challenge.rw_fademodes_k13_whole_moves_behind_one_ano.Holds := by
  w_on; o_law
  refine HandSHeadRun.head_imp (r := OpenLaw.row PySem.Challenge.rw_fademodes_k13_whole_moves_behind_one_ano) (q := view (OpenLaw.row PySem.Challenge.rw_fademodes_k13_whole_moves_behind_one_ano).prog [0, 45]) (H := K18.hk) (ob := K18.ob) (M := 20000) (loose := K18.loose) (d := HandSHeadRun.topDef (OpenLaw.row PySem.Challenge.rw_fademodes_k13_whole_moves_behind_one_ano).prog 45) (kwd := []) K18.ob_eq
    K18.run (by kernel_rfl) (by kernel_rfl) (by kernel_rfl) (by rfl) (by first | assumption | decide +kernel) (by decide +kernel) ⟨rfl, rfl, rfl, rfl, rfl, by decide +kernel⟩ ?hw ?hc
  case hw => w_witness2
  case hc =>
    refine GL.walk_T2 (l := PySem.Challenge.rw_fademodes_k13_whole_moves_behind_one_ano) (n := 63) (k := 13) (x := "_law_script") rfl (by decide) (by kernel_rfl) ⟨rfl, by decide, by decide⟩ ?F
    intro w mg fa h Y G hmg0
    obtain ⟨K, T, KX, TX, c, cx, b, tb⟩ := Y
    have hmg : mg ("law" : PySem.Str) = some (.ref fa) := by
      have e : (HandSHeadRun.topDef (OpenLaw.row PySem.Challenge.rw_fademodes_k13_whole_moves_behind_one_ano).prog 45).name = ("law" : PySem.Str) := by kernel_rfl
      rw [← e]
      exact hmg0
    obtain ⟨b1, b2⟩ := He.ba b
    have one : ∀ f ∈ K18.lamF K, PySem.W.CodeHd h (GL.codeAt K f) (GL.tabAt K (GL.codeAt K f)) ∧ K.lookup (GL.tabAt K (GL.codeAt K f)) = none ∧ h.get? (GL.tabAt K (GL.codeAt K f)) = some { cls := .none, data := .fields #[] } := by
      intro f hf
      obtain ⟨t1, t2⟩ := He.ba (List.all_eq_true.mp tb f hf)
      obtain ⟨c1, c2, _⟩ := GL.codeB_ok KX t1
      refine ⟨c1, c2, ?_⟩
      split at t2
      · rename_i o e
        rw [GL.isTab_eq t2] at e
        exact TX _ _ e
      · cases t2
    have tabs : ∀ {y : PySem.Addr}, y ∈ ((K18.lamF K).map (fun f => (GL.codeAt K f, GL.tabAt K (GL.codeAt K f)))).map Prod.snd → ∃ f ∈ K18.lamF K, y = GL.tabAt K (GL.codeAt K f) := by
      intro y hy
      obtain ⟨x, hx, rfl⟩ := List.mem_map.mp hy
      obtain ⟨f, hf, rfl⟩ := List.mem_map.mp hx
      exact ⟨f, hf, rfl⟩
    obtain ⟨fd, hb, hF⟩ := K18.facts (P := (PySem.Challenge.rw_fademodes_k13_whole_moves_behind_one_ano).prog) (w := w) ⟨KX, TX, G, c, cx, GL.sysB_ok b1, b2, tb⟩ hmg
    refine ⟨K, (K18.lamF K).map (fun f => (GL.codeAt K f, GL.tabAt K (GL.codeAt K f))), fd, K18.spLaw K (GL.tabAt K (GL.codeAt K (He.ga K "_law_done_right"))) (GL.tabAt K (GL.codeAt K (He.ga K "_law_refused_right"))), KX, ?_, ?_, ?_, hb, ?_, hF⟩
    · intro y hy
      obtain ⟨f, hf, rfl⟩ := tabs hy
      exact (one f hf).2.2
    · intro y hy
      obtain ⟨f, hf, rfl⟩ := tabs hy
      exact (one f hf).2.1
    · intro x hx
      obtain ⟨f, hf, rfl⟩ := List.mem_map.mp hx
      exact (one f hf).1
    · intro H a ns hl ht hS
      refine ⟨a, ns, rfl, hS, hl, fun x hx => ?_, fun _ => rfl⟩
      simp only [List.mem_cons, List.not_mem_nil, or_false] at hx
      rcases hx with rfl | rfl
      · exact LamX.TabS.nil (ht _ (List.mem_map.mpr ⟨_, List.mem_map.mpr ⟨_, List.mem_cons_self, rfl⟩, rfl⟩))
      · exact LamX.TabS.nil (ht _ (List.mem_map.mpr ⟨_, List.mem_map.mpr ⟨_, List.mem_cons_of_mem _ List.mem_cons_self, rfl⟩, rfl⟩))
