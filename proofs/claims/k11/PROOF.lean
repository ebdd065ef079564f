import PyProof.Rows.All
import Wide.All
import OpenK.AllK
import Wide.FinOn
import PyProof.EqAt
import PyProof.EqKinds
import PyProof.TupleCall
import HandS.ForMost
import HandS.ExcInit
import HandS.IsInst
import HandS.Wide
import HandS.WideBits
import HandS.ExcValue
import KE.KExcIs
import KE.KExcInit
import HandS.Defaults
import HandS.HeadHook2
import HandS.HeadEnd
import HandS.Head2
import HandS.Conv
import KE.KOpsOwn
import HandS.OwnEq
import HandS.Property
import HandS.ClsMeth
import HandS.Gcd
import HandS.MakeKw
import HandS.Star
import HandS.MethStar
import PyProof.InstNe
import HandS.Flow
import HandS.Head3
import HandS.TryMany
import HandS.ExcOwn
import HandS.Lambda
import HandS.Walk
import HandS.FStr
import KE.KAssignIn
import HandS.EndTab
import KE.KRevSl
import KE.KCallOwn
import KE.KFmtOwn
import PyProof.InstSpecial
import HandS.HotCalls
import PyProof.ReprNest
import PyProof.ReprRoads
import HandS.WordsExc
import HandS.FStrTup
import PySem.Challenge.RW_fademodes_k11_cuts_and_ranges
set_option Elab.async false
set_option linter.all false
set_option maxRecDepth 100000
set_option maxHeartbeats 4000000
namespace GL
open PySem PySem.Spec PyProof.Rows L2

/-! ### promises that hold where no container is being shown -/
structure FnG (P : Program) (w : World) (K : PySem.W.Frag) (mg : Str → Option Value) (base : Heap) (CX : CXT) (k : Nat) (f : Addr) (fd : FuncData) (ps : List Str) (sp : Sp) : Prop where
  many : ∀ vs H Q E, sp vs H Q E → vs.length = ps.length
  go : ∀ (A : Around) (outer : List Env) (s : Shared) (H : Hp) (args : Args) (us : List Value) (vs : List V) (Q : VK) (E : XK), A.guards = some [] → Room k A →
    Env0 P w K mg base A outer s H → BindsTo s fd args (ps.zip us) → Vals vs us → sp vs H Q E → codeAny (model P w) A (.call (.ref f) args) (CR CX outer P w H s Q E) s
theorem FnG.of {P : Program} {w : World} {K : PySem.W.Frag} {mg : Str → Option Value} {base : Heap} {CX : CXT} {k : Nat} {f : Addr} {fd : FuncData} {ps : List Str} {sp : Sp} (F : FnOk P w K mg base CX k f fd ps sp) : FnG P w K mg base CX k f fd ps sp :=
  ⟨F.len, fun A outer s H args us vs Q E _ => F.run A outer s H args us vs Q E⟩

section
variable {P : Program} {w : World} {K : PySem.W.Frag} {mg : Str → Option Value} {base : Heap} {CX : CXT}
theorem FnG.ofBody {k : Nat} {f : Addr} {name qual : Str} {params : Arguments} {body : List Stmt} {scope : Scope} {dV kV doc pm cdv ct oc : Value} {an od : Option Addr} {osl : Array (Option Value)} {N ps : List Str} {sp : Sp}
    (lk : K.lookup f = some ⟨oc, od, .func (PySem.W.fnOf name qual params body scope dV kV doc pm an cdv ct), osl⟩) (hcd : PySem.W.codeIn K cdv qual = true) (S : FnScope N ps scope) (many : ∀ vs H Q E, sp vs H Q E → vs.length = ps.length)
    (hbody : ∀ (A : Around) (outer : List Env) (s : Shared) (H : Hp) (vs : List V) (Q : VK) (E : XK), A.guards = some [] → Room k (A.deeper (envOfC qual scope s.heap.objs.size f cdv)) → sp vs H Q E →
      ∃ t, PSs (cxOf CX P w K mg base N qual scope f cdv A outer s H E) body t ∧ t { nx := fun _ H' => Q .non H', rt := Q } (start N vs) H) :
    FnG P w K mg base CX (k + 1) f (PySem.W.fnOf name qual params body scope dV kV doc pm an cdv ct) ps sp := by
  constructor
  · exact many
  intro A outer s H args us vs Q E gd hr e0 hb rv hsp
  have sameLen := many _ _ _ _ hsp
  have inS : K.In s.heap := e0.mod.kin.keeps fun b o e => (e0.bs b o e).1
  have noLim : s.heap.NoLimit := e0.mod.nolimit.keeps fun b o e => (e0.bs b o e).1
  have kinds : ∀ y ∈ ps.zip us, scope.names.lookup y.1 = some .local ∨ (scope.names.lookup y.1 = some .cell ∧ ((cellsFrom (s.heap.objs.size + 1) scope.names []).lookup y.1).isSome = true) := by
    intro y hy
    have hm := (List.of_mem_zip (a := y.1) (b := y.2) hy).1
    exact (S.par y.1 hm).imp id fun q => ⟨q, PySem.W.cellsFrom_some _ _ _ (.inl q)⟩
  apply codeAny_call_function hr.depth (inS _ _ lk) rfl S.co S.gen rfl (PySem.W.codeRec_of inS hcd)
  apply hb
  apply wpAny_newFunctionEnv_cells S.kind kinds
  intro env he s1 entered
  cases he
  refine ⟨noLim.keeps entered.toInCall.keep, codeAny_func ?_⟩
  obtain ⟨t, tOk, tRun⟩ := hbody A outer s H vs Q E gd (hr.deeper _) hsp
  have atStart : Inv (cxOf CX P w K mg base N qual scope f cdv A outer s H E) [] (start N vs) H s1 := inv_start S hr.hd e0 sameLen rv entered
  refine wpAny_mono (tOk.run [] s1 (start N vs) H _ atStart tRun) (fun fl s' hs => ?_) fun e s' hs => hs
  match fl, hs with
  | .ret u, hs =>
    obtain ⟨v, σ', H', J, r, q⟩ := hs
    exact ⟨v, H', J.os, J.bare, J.base, J.hok, r, q⟩
  | .next, hs =>
    obtain ⟨σ', H', J, q⟩ := hs
    exact ⟨V.non, H', J.os, J.bare, J.base, J.hok, rfl, q⟩
  | .brk, hs =>
    obtain ⟨_, _, _, q⟩ := hs
    exact False.elim q
  | .cont, hs =>
    obtain ⟨_, _, _, q⟩ := hs
    exact False.elim q
end

section
variable {X : Cx} {CX : CXT} {k : Nat} {f : Addr} {fd : FuncData} {ps : List Str} {sp : Sp} {dvs : List V} {ds : List Value} {E : XK} {x : Str} {p pos : Pos} {e : Expr} {es : List Expr} {t : TA}
theorem FnG.call {pins : List (Addr × Obj)} {σ : L2.St} {H : Hp} {s : Shared} {Q : VK} {us : List Value} {vs : List V} (F : FnG X.prog X.w X.K X.mg X.base CX k f fd ps sp) (gd : X.A.guards = some []) (hr : Room k X.A) (hb : Binds X.K fd ps ds) (hd : Vals dvs ds)
    (hx : Passes CX X E) (I : Inv X pins σ H s) (r : Vals vs us) (h : sp (vs ++ dvs) H Q E) : wpAny (model X.prog X.w) X.A (PySem.call (.ref f) us) (EP X pins σ Q) X.xe s := by
  have all := r.append hd
  have hl : (us ++ ds).length = ps.length := all.length.symm.trans (F.many _ _ _ _ h)
  apply wpAny_call
  refine codeAny_mono (F.go X.A X.stack s H ⟨us, []⟩ (us ++ ds) (vs ++ dvs) Q E gd hr I.env0 (hb s us I.kIn hl) all h) ?_
  intro r' s' hq
  match r', hq with
  | .error er, hq => exact hx pins σ H s er s' I hq
  | .ok (.ret u), hq => exact I.after hq
  | .ok .next, hq => exact False.elim hq
  | .ok .brk, hq => exact False.elim hq
  | .ok .cont, hq => exact False.elim hq
/-- f(e, ..), f one of these defs -/
theorem pe_callG (F : FnG X.prog X.w X.K X.mg X.base CX k f fd ps sp) (gd : X.A.guards = some []) (hr : Room k X.A) (hg : Gl X x) (hm : X.mg x = some (.ref f)) (hk : PySem.W.keepIn X.K (.ref f) = true) (hb : Binds X.K fd ps ds) (hd : Vals dvs ds) (hx : Passes CX X E)
    (ha : PA X (e :: es) t) (hdb : (x == ("__debug__" : Str)) = false := by decide) (he : starEach (e :: es) X.env = (false, eval e X.env) :: starEach es X.env := by rfl) (hpl : (backTo pos (starEach es X.env)).any (·.1) = false := by rfl) :
    PE X (.Call (.Name x p) (e :: es) [] pos) (tCall sp dvs E t) := by
  constructor
  intro pins s σ H Q I h
  apply wpAny_Call_Name_kw
  refine ld_glob I hg hm ?_ hdb
  refine PySem.W.callWith_K (h₀ := X.base) I.ok.mod.kin hk (thn (ha.run pos pins s σ H _ I h) ?_) he hpl
  rintro us s1 ⟨vs, H1, I1, r, q⟩
  exact ⟨I1.kIn, F.call gd hr hb hd hx I1 r q⟩
theorem pe_callG0 (F : FnG X.prog X.w X.K X.mg X.base CX k f fd ps sp) (gd : X.A.guards = some []) (hr : Room k X.A) (hg : Gl X x) (hm : X.mg x = some (.ref f)) (hk : PySem.W.keepIn X.K (.ref f) = true) (hb : Binds X.K fd ps ds) (hd : Vals dvs ds) (hx : Passes CX X E)
    (hdb : (x == ("__debug__" : Str)) = false := by decide) : PE X (.Call (.Name x p) [] [] pos) (tCall sp dvs E tNil) := by
  constructor
  intro pins s σ H Q I h
  apply wpAny_Call_Name_kw
  refine ld_glob I hg hm ?_ hdb
  exact PySem.W.callWith_K0 I.kIn hk (F.call (us := []) gd hr hb hd hx I .nil h)
end

section
variable {P : Program} {w : World} {K : PySem.W.Frag} {mg : Str → Option Value} {base : Heap}
theorem Fun.okG {x qual : Str} {st : Stmt} {f : Addr} {fd : FuncData} {N ps : List Str} {k : Nat} {sp : Sp} (F : L2.Fun K x qual st f fd) (S : FnScope N ps (defScope st)) (many : ∀ vs H Q E, sp vs H Q E → vs.length = ps.length)
    (hbody : ∀ (cdv : Value) (A : Around) (outer : List Env) (s : Shared) (H : Hp) (vs : List V) (Q : VK) (E : XK), A.guards = some [] → Room k (A.deeper (envOfC qual (defScope st) s.heap.objs.size f cdv)) → sp vs H Q E →
      ∃ t, PSs (cxOf CX0 P w K mg base N qual (defScope st) f cdv A outer s H E).nox (defBody st) t ∧ t { nx := fun _ H' => Q .non H', rt := Q } (start N vs) H) : FnG P w K mg base CX0 (k + 1) f fd ps sp := by
  obtain ⟨oc, od, kV, doc, pm, an, cdv, ct, osl, rfl, lk, hcd⟩ := F.ex
  refine FnG.ofBody lk hcd S many ?_
  intro A outer s H vs Q E gd hr hsp
  obtain ⟨t, h, q⟩ := hbody cdv A outer s H vs Q E gd hr hsp
  exact ⟨t, h.nox, q⟩
end

/-! ### the law's call -/
theorem law_callG {P : Program} {w : World} {K : PySem.W.Frag} {mg mb : Str → Option Value} {k : Nat} {fa a : Addr} {fd : FuncData} {x : Str} {sp : Sp} {s₁ : Shared} {vs : List Value} {ns : List Int}
    (KX : K.In s₁.heap) (hns : s₁.heap.Ns mainGlobals mg) (hb : s₁.heap.Ns builtinsNs mb) (hbb : ∀ x : Str, x ≠ "__name__" → mb x = bootBuiltins x) (hlim : s₁.heap.NoLimit) (hg : s₁.gens = #[])
    (ha : s₁.heap.get? a = some { cls := .type "list", data := .seq vs.toArray }) (hi : IntsAre vs ns) (hl : ns.length ≤ sizeLine) (hr : Room k callerA)
    (F : ∀ base : Heap, K.In base → base.Ns mainGlobals mg → FnG P w K mg base CX0 k fa fd [x] sp) (hbind : ∀ (s : Shared) (u : Value), BindsTo s fd ⟨[u], []⟩ [(x, u)])
    (hsp : ∀ H : Hp, Only H → SqL K H a (ns.map V.int) → sp [.ref a] H (fun v _ => v = .bl true) E0) :
    codeAny (model P w) callerA (.call (.ref fa) ⟨[.ref a], []⟩) (fun r s' => r = .ok (.ret (.bool true)) ∧ OldK s₁.heap s'.heap ∧ s'.os = s₁.os ∧ AllBare s'.gens) s₁ := by
  have rv := vals_ints hi
  have main : ∀ H : Hp, Only H → SqL K H a (ns.map V.int) → HOk P w H s₁.heap → (∀ b u, H b = some u → b = a ∧ K.lookup a = none) →
      codeAny (model P w) callerA (.call (.ref fa) ⟨[.ref a], []⟩) (fun r s' => r = .ok (.ret (.bool true)) ∧ OldK s₁.heap s'.heap ∧ s'.os = s₁.os ∧ AllBare s'.gens) s₁ := by
    intro H only sq hok ours
    have stays : ∀ {b : Addr} {o : Obj}, s₁.heap.get? b = some o → H b = none → (hidT s₁.heap H).get? b = some o := fun e n => hidT_get e n
    have free : ∀ {b : Addr} {o : Obj} {es : Array DictEntry} {ep : Nat}, s₁.heap.get? b = some o → o.data = .dict es ep → H b = none := by
      intro b o es ep e d
      cases q : H b with
      | none => rfl
      | some u =>
        cases (ours b u q).1
        rw [ha] at e
        cases e
        cases d
    have spaces : ∀ {b : Addr} {m : Str → Option Value}, s₁.heap.Ns b m → (hidT s₁.heap H).Ns b m := fun {b m} ⟨o, es, ep, e, d, r⟩ => ⟨o, es, ep, stays e (free e d), d, r⟩
    have kin : K.In (hidT s₁.heap H) := by
      intro b o e
      refine stays (KX b o e) ?_
      cases q : H b with
      | none => rfl
      | some u =>
        obtain ⟨rfl, z⟩ := ours b u q
        rw [z] at e
        cases e
    have md : Mod K mg (hidT s₁.heap H) := ⟨kin, spaces hns, ⟨mb, spaces hb, hbb⟩, let ⟨mc, h1, h2⟩ := hlim; ⟨mc, spaces h1, h2⟩⟩
    have nofr : ∀ b ∈ frs ([] : List Env), H b = none := fun b z => nomatch z
    have e0 : Env0 P w K mg (hidT s₁.heap H) callerA [] s₁ H := ⟨rfl, md, fun b o e => of_hidT e, Nat.le_of_eq (hidT_size _ _), trivial, nofr, hok, .of_eq hg⟩
    refine codeAny_mono ((F _ kin (spaces hns)).go callerA [] s₁ H ⟨[.ref a], []⟩ [.ref a] [.ref a] _ _ rfl hr e0 (hbind s₁ (.ref a)) (.cons rfl .nil) (hsp H only sq)) ?_
    intro r s' h
    match r, h with
    | .error e, h => exact False.elim h
    | .ok .next, h => exact False.elim h
    | .ok .brk, h => exact False.elim h
    | .ok .cont, h => exact False.elim h
    | .ok (.ret u), h =>
      obtain ⟨v, H', os, bare, un, hok', r', rfl⟩ := h
      cases (show u = Value.bool true from r')
      refine ⟨rfl, OldK.of_keep fun b o e => ?_, os, bare⟩
      cases q : H b with
      | none => exact un.keep b o e q (fun z => nomatch z) (fun z => nomatch z)
      | some u =>
        rcases only b with z | ⟨ob, xs, z⟩
        · rw [q] at z
          cases z
        · have e1 := (hok b _ z).1
          have e2 := (hok' b _ (un.frzs b ob _ z)).1
          rw [e] at e1
          cases e1
          exact e2
  cases hk : K.lookup a with
  | some o =>
    have e := KX a o hk
    rw [ha] at e
    cases e
    have none_ : ∀ b u, (fun _ => none : Hp) b = some u → b = a ∧ K.lookup a = none := fun b u z => nomatch z
    refine main (fun _ => none) (fun _ => .inl rfl) (.inr ⟨_, vs.toArray, _, hk, rfl, rfl, rfl, ?_, by simpa using rv⟩) (fun b u z => nomatch z) none_
    rw [List.size_toArray, hi.length]
    exact hl
  | none =>
    have at_ : ∀ b u, (fun b => if b = a then some (HO.frz { cls := .type "list", data := .seq vs.toArray } (.lst (ns.map V.int))) else none : Hp) b = some u → b = a ∧ u = HO.frz { cls := .type "list", data := .seq vs.toArray } (.lst (ns.map V.int)) := by
      intro b u z
      by_cases hb : b = a
      · have z' := (if_pos hb).symm.trans z
        exact ⟨hb, (Option.some.inj z').symm⟩
      · have z' := (if_neg hb).symm.trans z
        cases z'
    refine main (fun b => if b = a then some (HO.frz { cls := .type "list", data := .seq vs.toArray } (.lst (ns.map V.int))) else none) ?_ (.inl (.inr ⟨{ cls := .type "list", data := .seq vs.toArray }, if_pos rfl⟩)) ?_ ?_
    · intro b
      by_cases hb : b = a
      · exact .inr ⟨_, _, if_pos hb⟩
      · exact .inl (if_neg hb)
    · intro b u z
      obtain ⟨rfl, rfl⟩ := at_ b u z
      exact ⟨ha, by rw [List.length_map]; exact hl, vs, _, rv, ha⟩
    · intro b u z
      exact ⟨(at_ b u z).1, hk⟩

theorem walk_G {l : PySem.W.OpenLaw} {n k : Nat} {q : Program} {loose : List Str} {XP : (Str → Option Value) → Heap → Prop} {YP : World → Heap → Prop} {d : DefRec} {x : Str}
    (hn : l.most = some n) (hn2 : n ≤ sizeLine) (hdf : d.params.defaults = []) (hr : Room k callerA)
    (F : ∀ (w : World) (mg : Str → Option Value) (fa : Addr) (h : Heap), YP w h → h.Ns mainGlobals mg → mg d.name = some (.ref fa) →
      ∃ (K : PySem.W.Frag) (fd : FuncData) (sp : Sp), K.In h ∧ (∀ (s : Shared) (u : Value), BindsTo s fd ⟨[u], []⟩ [(x, u)]) ∧
        (∀ (H : Hp) (a : Addr) (ns : List Int), ns.length ≤ n → Only H → SqL K H a (ns.map V.int) → sp [.ref a] H (fun v _ => v = .bl true) E0) ∧
        ∀ base : Heap, K.In base → base.Ns mainGlobals mg → FnG l.prog w K mg base CX0 k fa fd [x] sp) :
    PySem.W.WalkO q loose XP YP l.row.toRowW d [] (fun f vs => PySem.call f vs) := by
  apply Att.attach_call hn hdf
  intro w s₀ s₁ mg mb fa o pm cd doc a vs ns G Y ho hd hcd hmg hobj hints hlen hg
  obtain ⟨K, fd, sp, KX, hb, hsp, hF⟩ := F w mg fa _ Y G.T.g hmg
  exact law_callG KX G.T.g G.T.b G.T.builtins G.T.nolimit hg hobj hints (Nat.le_trans hlen hn2) hr hF hb fun H only sq => hsp H a ns hlen only sq

/-! ### data that is read, dicts too -/
mutual
inductive Dq (K : PySem.W.Frag) (H : Hp) : V → PyData → Prop
  | non : Dq K H .non .none
  | bl (b : Bool) : Dq K H (.bl b) (.bool b)
  | int (i : Int) : Dq K H (.int i) (.int i)
  | str (x : Str) : Dq K H (.str x) (.str x)
  | lst {a : Addr} {xs : List V} {ds : List PyData} : SqL K H a xs → DqAll K H xs ds → Dq K H (.ref a) (.list ds)
  | tup {a : Addr} {xs : List V} {ds : List PyData} : SqT K H a xs → DqAll K H xs ds → Dq K H (.ref a) (.tuple ds)
  | dct {a : Addr} {kvs : List (Key × V)} {ps : List (PyData × PyData)} : H a = some (.dK kvs) → DqKv K H kvs ps → Dq K H (.ref a) (.dict ps)
inductive DqAll (K : PySem.W.Frag) (H : Hp) : List V → List PyData → Prop
  | nil : DqAll K H [] []
  | cons {v : V} {vs : List V} {d : PyData} {ds : List PyData} : Dq K H v d → DqAll K H vs ds → DqAll K H (v :: vs) (d :: ds)
inductive DqKv (K : PySem.W.Frag) (H : Hp) : List (Key × V) → List (PyData × PyData) → Prop
  | nil : DqKv K H [] []
  | consI {i : Int} {v : V} {d : PyData} {r : List (Key × V)} {ps : List (PyData × PyData)} : Dq K H v d → DqKv K H r ps → DqKv K H ((.inl i, v) :: r) ((.int i, d) :: ps)
  | consS {x : Str} {v : V} {d : PyData} {r : List (Key × V)} {ps : List (PyData × PyData)} : Dq K H v d → DqKv K H r ps → DqKv K H ((.inr x, v) :: r) ((.str x, d) :: ps)
end
end GL
set_option maxHeartbeats 4000000
namespace GL
open PySem PySem.Spec PyProof.Rows L2
/-- the written part knows the table of modules -/
def SysK (K : PySem.W.Frag) : Prop := ∃ o es ep, K.lookup sysModules = some o ∧ o.data = .dict es ep
section
variable {X : Cx} {pins : List (Addr × Obj)} {σ : L2.St} {H : Hp} {s : Shared}
theorem notSys (S : SysK X.K) (I : Inv X pins σ H s) {a : Addr} {o : Obj} {vs : Array Value} {n : Nat} (e : s.heap.get? a = some o) (d : o.data = .seq vs n) : sysModules ≠ a := by
  rintro rfl
  obtain ⟨o', es, ep, l, d'⟩ := S
  have e' := I.kIn _ _ l
  rw [e] at e'
  cases e'
  rw [d] at d'
  cases d'
theorem kvReads {h : Heap} : ∀ {kvs : List (Key × Value)} {es : List DictEntry} {P : Program} {w : World}, Pairs (mixKind P w) es kvs →
    ∀ {ps : List (PyData × PyData)} {as : List Addr}, ReadsAll h (es.map (·.val)) (ps.map (·.2)) as → (∀ i : Nat, (kvs[i]?).map (fun kv => match kv.1 with | .inl j => PyData.int j | .inr x => PyData.str x) = (ps[i]?).map (·.1)) → ReadsAll h (es.map (·.key)) (ps.map (·.1)) [] := by
  intro kvs es P w pr
  induction pr with
  | nil =>
    intro ps as r hk
    cases ps with
    | nil => exact ReadsAll.nil
    | cons p ps => cases r
  | @cons e kv es kvs hk hv _ ih =>
    intro ps as r hh
    cases ps with
    | nil => cases r
    | cons p ps =>
      have h0 := hh 0
      have rest : ∀ i : Nat, (kvs[i]?).map (fun kv => match kv.1 with | .inl j => PyData.int j | .inr x => PyData.str x) = (ps[i]?).map (·.1) := fun i => by simpa using hh (i + 1)
      obtain ⟨pk, pv⟩ := p
      obtain ⟨k, v⟩ := kv
      simp at h0
      cases r with
      | cons r1 r2 =>
        have t := ih r2 rest
        show ReadsAll h (e.key :: es.map (·.key)) (pk :: ps.map (·.1)) ([] ++ [])
        refine ReadsAll.cons ?_ t
        rcases keyIs_shape (show keyIs k e.key = true from hk) with ⟨j, u, rfl, e1⟩ | ⟨x, u, rfl, e1⟩
        · rw [e1, ← h0]
          exact Reads.int j u
        · rw [e1, ← h0]
          exact Reads.str x u
theorem pairsVals {P : Program} {w : World} : ∀ {kvs : List (Key × Value)} {es : List DictEntry}, Pairs (mixKind P w) es kvs → es.map (·.val) = kvs.map (·.2) := by
  intro kvs es pr
  induction pr with
  | nil => rfl
  | @cons e kv es kvs _ hv _ ih => rw [List.map_cons, List.map_cons, ih, hv]
theorem kvVals : ∀ {kvs : List (Key × V)} {vs : List (Key × Value)}, KV kvs vs → Vals (kvs.map (·.2)) (vs.map (·.2)) ∧ ∀ i : Nat, (vs[i]?).map (·.1) = (kvs[i]?).map (·.1)
  | _, _, .nil => ⟨.nil, fun i => by simp⟩
  | _, _, .cons r t => by
    obtain ⟨a, b⟩ := kvVals t
    refine ⟨.cons r.2 a, fun i => ?_⟩
    cases i with
    | zero => simp [r.1]
    | succ i => simpa using b i
theorem kvKeys {K : PySem.W.Frag} {H : Hp} : ∀ {kvs : List (Key × V)} {ps : List (PyData × PyData)}, DqKv K H kvs ps → ∀ i : Nat, (kvs[i]?).map (fun kv => match kv.1 with | .inl j => PyData.int j | .inr x => PyData.str x) = (ps[i]?).map (·.1) := by
  intro kvs
  induction kvs with
  | nil =>
    intro ps h i
    cases h
    rfl
  | cons kv kvs ih =>
    intro ps h i
    cases h with
    | consI a b =>
      cases i with
      | zero => rfl
      | succ i => simpa using ih b i
    | consS a b =>
      cases i with
      | zero => rfl
      | succ i => simpa using ih b i
mutual
theorem Dq.reads (S : SysK X.K) (I : Inv X pins σ H s) : ∀ {v : V} {d : PyData} {u : Value}, Dq X.K H v d → RelV v u → ∃ as, Reads s.heap u d as ∧ sysModules ∉ as
  | _, _, _, .non, r => by
    cases r
    exact ⟨_, Reads.none, List.not_mem_nil⟩
  | _, _, _, .bl b, r => by
    cases r
    exact ⟨_, Reads.bool b, List.not_mem_nil⟩
  | _, _, _, .int i, r => by
    obtain ⟨t, rfl⟩ := r
    exact ⟨_, Reads.int i t, List.not_mem_nil⟩
  | _, _, _, .str x, r => by
    obtain ⟨t, rfl⟩ := r
    exact ⟨_, Reads.str x t, List.not_mem_nil⟩
  | _, _, _, .lst hs ha, r => by
    cases r
    obtain ⟨its, rv, ⟨o, n, ho, hc, _, hd⟩, _⟩ := I.list hs
    obtain ⟨as, hr, hn⟩ := DqAll.reads S I ha rv
    exact ⟨_, Reads.list ho hc hd hr, List.not_mem_cons_of_ne_of_not_mem (notSys S I ho hd) hn⟩
  | _, _, _, .tup hs ha, r => by
    cases r
    obtain ⟨its, rv, ⟨o, ho, hc, n, hd⟩, _⟩ := I.tuple hs
    obtain ⟨as, hr, hn⟩ := DqAll.reads S I ha rv
    exact ⟨_, Reads.tuple ho hc hd hr, hn⟩
  | _, _, _, @Dq.dct _ _ a kvs ps e hk, r => by
    cases r
    obtain ⟨_, ns, vs, kv, o, es, ep, ho, ex, hd, _, pr, _⟩ := I.hok a _ e
    obtain ⟨rv, ks⟩ := kvVals kv
    obtain ⟨as, hr, hn⟩ := DqKv.reads S I hk rv
    rw [← pairsVals pr] at hr
    have kr := kvReads pr hr (fun i => by
      rw [← kvKeys hk i]
      have := ks i
      cases q : vs[i]? <;> cases q' : kvs[i]? <;> rw [q, q'] at this <;> simp at this ⊢
      rw [this])
    refine ⟨_, Reads.dict ho ex.1 hd kr hr, ?_⟩
    refine List.not_mem_cons_of_ne_of_not_mem (fun z => ?_) (by simpa using hn)
    rw [← z] at ns
    simp at ns
theorem DqAll.reads (S : SysK X.K) (I : Inv X pins σ H s) : ∀ {vs : List V} {ds : List PyData} {us : List Value}, DqAll X.K H vs ds → Vals vs us → ∃ as, ReadsAll s.heap us ds as ∧ sysModules ∉ as
  | _, _, _, .nil, r => by
    cases r
    exact ⟨_, ReadsAll.nil, List.not_mem_nil⟩
  | _, _, _, .cons h1 h2, .cons r1 r2 => by
    obtain ⟨as, q1, n1⟩ := Dq.reads S I h1 r1
    obtain ⟨bs, q2, n2⟩ := DqAll.reads S I h2 r2
    exact ⟨_, ReadsAll.cons q1 q2, by simp [n1, n2]⟩
theorem DqKv.reads (S : SysK X.K) (I : Inv X pins σ H s) : ∀ {kvs : List (Key × V)} {ps : List (PyData × PyData)} {us : List Value}, DqKv X.K H kvs ps → Vals (kvs.map (·.2)) us → ∃ as, ReadsAll s.heap us (ps.map (·.2)) as ∧ sysModules ∉ as
  | _, _, _, .nil, r => by
    cases r
    exact ⟨_, ReadsAll.nil, List.not_mem_nil⟩
  | _, _, _, .consI h1 h2, .cons r1 r2 => by
    obtain ⟨as, q1, n1⟩ := Dq.reads S I h1 r1
    obtain ⟨bs, q2, n2⟩ := DqKv.reads S I h2 r2
    exact ⟨_, ReadsAll.cons q1 q2, by simp [n1, n2]⟩
  | _, _, _, .consS h1 h2, .cons r1 r2 => by
    obtain ⟨as, q1, n1⟩ := Dq.reads S I h1 r1
    obtain ⟨bs, q2, n2⟩ := DqKv.reads S I h2 r2
    exact ⟨_, ReadsAll.cons q1 q2, by simp [n1, n2]⟩
end
end

/-! ### repr of data -/
def rRepr (K : PySem.W.Frag) : List V → Hp → VK → Prop := fun xs H Q => ∃ (a : Addr) (d : PyData), xs = [.ref a] ∧ Dq K H (.ref a) d ∧ d.showable = true ∧ d.depth ≤ 40 ∧ d.shown.length ≤ sizeLine ∧ Q (.str d.shown) H
theorem call_reprD {X : Cx} (S : SysK X.K) (gd : X.A.guards = some []) (hu : X.A.units + 64 < cLine) : CallR X (.builtin "repr") (rRepr X.K) := by
  intro pins s σ H xs us Q I r h
  obtain ⟨a, d, rfl, hd, sh, dp, sz, q⟩ := h
  cases r with
  | cons r1 r2 =>
    cases r2
    cases r1
    obtain ⟨as, rd, ns⟩ := Dq.reads S I hd rfl
    refine repr_of_reads' rd sh (fun _ => ns) gd (by omega) (fun b o e => e) (fun h' u tk keep => ?_) sz
    exact ⟨.str d.shown, H, I.kept keep, ⟨u, rfl⟩, q⟩
end GL
set_option maxHeartbeats 4000000
/-! Errors of the program as values: made by places and by names, their fields stored and read, isinstance. -/
namespace PySem
namespace GX
open PySem.W PySem.Calls PyProof.Rows PySem.HandSPX Builtin Builtin.ObjectAttr
section
variable {prog : Program} {w : World} {A : Around} {E : Value → Shared → Prop} {R : Result → Shared → Prop} {hp : Heap} {g : Array GenState} {d : Drawn} {t : Nat} {os : OsState}
variable {nm q : Str} {C N : Addr} {bs bm bmB : List Value} {hdct : Bool} {sn : List Str} {sub : List Value} {ab : Bool} {col : Option Bool} {dd : Option Addr} {k0 k1 k2 k3 k5 : Option Value} {B newId initId : String}
theorem tail_some {l : List Value} (hB : bmB.isEmpty = false) (e : excTail bmB l = true) : l.isEmpty = false := by
  cases l with
  | cons _ _ => rfl
  | nil =>
    have q : ([] : List Value) = bmB := beq_iff_eq.mp e
    rw [← q] at hB
    exact hB
/-- the way of a store at an error's object as far as the own dict -/
theorem to_own {K : W.Frag} {name : Str} {tk : Tok} {v : Value} {x : Addr} {ox : Obj} {od : Option Obj} {cd : ClassData} (SB : StoreFacts B bmB "object.__setattr__" "object") (hB : bmB.isEmpty = false) (hO : bmB.contains (.type "object") = true)
    (X : K.In hp) (I : W.InstAt hp x ox C od) (hcd : W.clsIn K C = some cd) (hm : excTail bmB cd.mro = true) (ha : W.findIn K (.ref C) name = some none)
    (h : wpAny (model prog w) A.in1 (storeInOwnDict (.ref x) (.ref C) (.str name tk) name v false)
      (fun fin s' => match fin with | .done f => R (.ok f) s' | .again c' => c'.quiet = true ∧ codeAny (model prog w) A c' R s') (fun e s' => R (.error e) s') ⟨hp, g, d, t, os⟩) :
    codeAny (model prog w) A (.call (.builtin "object.__setattr__") ⟨[.ref x, .str name tk, v], []⟩) R ⟨hp, g, d, t, os⟩ := by
  have SO := F.store_object
  have some_ := tail_some hB hm
  have obj : cd.mro.contains (.type "object") = true := (excTail_contains "object" _ hm).trans hO
  have isO : W.Looks (model prog w) hp (isInstance (.ref x) (.type "object")) true := by
    refine I.type.andThen (W.looks_mroIn X ?_)
    unfold W.mroIn
    rw [hcd, Option.bind_some, some_, obj]
    rfl
  apply codeAny_call_builtin SO.slot.plain SO.entry
  refine @W.check_slot (model prog w) _ _ ⟨hp, g, d, t, os⟩ "object.__setattr__" "object" "__setattr__" (.ref x) [.str name tk, v] [] _ SO.kind SO.split isO (SO.args (.ref x) (.str name tk) v) ?_
  have mro : W.Looks (model prog w) hp (mroOf (.ref C)) cd.mro := (W.looks_clsIn X hcd).andThen .now
  have nobody : W.Looks (model prog w) hp (storeTaker? none) none := .now
  rw [W.osa_eq, refuse_eq]
  apply wpAny_bind
  apply wpAny_bind
  apply I.type.at
  apply wpAny_bind
  apply mro.at
  rw [excTail_pass (.ref x) (SB.passes (.ref x)) _ hm]
  apply wpAny_pure
  apply wpAny_bind
  apply I.type.at
  apply wpAny_bind
  apply (W.looks_findIn X ha).at
  apply wpAny_bind
  apply nobody.at
  exact h
/-- the first field: the error gets its dict -/
theorem store_first {K : W.Frag} {name : Str} {tk : Tok} {v : Value} {x : Addr} {fv : Array Value} {cd : ClassData} (SB : StoreFacts B bmB "object.__setattr__" "object") (hB : bmB.isEmpty = false) (hO : bmB.contains (.type "object") = true)
    (X : K.In hp) (hx : hp.get? x = some { cls := .ref C, data := .fields fv }) (hcd : W.clsIn K C = some cd) (hm : excTail bmB cd.mro = true) (hh : cd.hasDict = true) (ha : W.findIn K (.ref C) name = some none)
    (hq : ∀ h' tk' dx, (∀ b o, b ≠ x → hp.get? b = some o → h'.get? b = some o) → hp.objs.size ≤ dx → dx ≠ x → h'.get? x = some { cls := .ref C, dict := some dx, data := .fields fv } →
      h'.Ns1 dx (fun y => if y = name then some v else none) → R (.ok (.ret .none)) ⟨h', g, d, tk', os⟩) :
    codeAny (model prog w) A (.call (.builtin "object.__setattr__") ⟨[.ref x, .str name tk, v], []⟩) R ⟨hp, g, d, t, os⟩ := by
  have I : W.InstAt hp x { cls := .ref C, data := .fields fv } C none := ⟨hx, rfl, rfl, trivial⟩
  have cl : W.Looks (model prog w) hp (classData C) cd := W.looks_clsIn X hcd
  have apart : x ≠ hp.objs.size := Nat.ne_of_lt (Heap.lt_size hx)
  apply to_own SB hB hO X I hcd hm ha
  rcases cd with ⟨n1, n2, n3, n4, n5, n6, n7, n8, n9, n10, n11⟩
  cases (show n6 = true from hh)
  unfold storeInOwnDict ownDictForStores
  repeat (first | with_reducible refine HandSPX.store_in_new ?_ ?_ | with_reducible refine wpAny_loadPart_at hx ?_ | with_reducible refine cl.at ?_ | wp_step)
  · exact ⟨_, #[], _, (Heap.get?_update_ne _ _ _ _ apart.symm).trans (Heap.get?_push_at rfl rfl), rfl, fun e he => absurd he (by simp), fun _ => rfl⟩
  · intro h' tk' named but
    have there : (hp.push { cls := .type "dict", data := .dict #[] }).get? x = some { cls := .ref C, data := .fields fv } := Heap.get?_push_of_some _ hx
    apply hq h' tk' hp.objs.size
    · intro b o hb ho
      rw [but.2 b (Nat.ne_of_lt (Heap.lt_size ho)), Heap.get?_update_ne _ _ _ _ hb]
      exact Heap.get?_push_of_some _ ho
    · exact Nat.le_refl _
    · exact apart.symm
    · rw [but.2 x apart]
      exact Heap.get?_update_self _ there rfl
    · exact named
/-- a further field -/
theorem store_next {K : W.Frag} {name : Str} {tk : Tok} {v : Value} {x dx : Addr} {fv : Array Value} {cd : ClassData} {m0 : Str → Option Value} {nl : List Str} (SB : StoreFacts B bmB "object.__setattr__" "object") (hB : bmB.isEmpty = false) (hO : bmB.contains (.type "object") = true)
    (X : K.In hp) (hx : hp.get? x = some { cls := .ref C, dict := some dx, data := .fields fv }) (hns : hp.Ns1 dx m0) (hw : Within m0 nl) (hz : nl.length ≤ 1000) (hcd : W.clsIn K C = some cd) (hm : excTail bmB cd.mro = true) (hh : cd.hasDict = true) (ha : W.findIn K (.ref C) name = some none)
    (hq : ∀ h' tk', (∀ b o, b ≠ dx → hp.get? b = some o → h'.get? b = some o) → h'.Ns1 dx (fun y => if y = name then some v else m0 y) → R (.ok (.ret .none)) ⟨h', g, d, tk', os⟩) :
    codeAny (model prog w) A (.call (.builtin "object.__setattr__") ⟨[.ref x, .str name tk, v], []⟩) R ⟨hp, g, d, t, os⟩ := by
  obtain ⟨oD, esD, epD, atD, isD, _⟩ := hns.count hw
  have I : W.InstAt hp x { cls := .ref C, dict := some dx, data := .fields fv } C (some oD) := ⟨hx, rfl, rfl, atD⟩
  have cl : W.Looks (model prog w) hp (classData C) cd := W.looks_clsIn X hcd
  apply to_own SB hB hO X I hcd hm ha
  rcases cd with ⟨n1, n2, n3, n4, n5, n6, n7, n8, n9, n10, n11⟩
  cases (show n6 = true from hh)
  unfold storeInOwnDict ownDictForStores
  repeat (first | with_reducible refine OEX.store_in_old hns hw hz ?_ | with_reducible refine wpAny_loadPart_at hx ?_ | with_reducible refine cl.at ?_ | wp_step)
  intro h' tk' named but
  exact hq h' tk' (fun b o hb ho => (but.2 b hb).trans ho) named

/-! ### C(.., k = ..) of an error class with an __init__ of its own -/
theorem made (FB : ExcBaseFacts B newId initId bmB) (hT : ∀ X : String, bm.contains (.type X) = bmB.contains (.type X)) {rest : List Value} {kw : List (Str × Value)} {fI : Addr}
    (hC : hp.get? C = some (excClassObj nm q C N bs bm hdct sn sub ab col dd k0 k1 k2 k3 k5 newId))
    (hi : W.Looks (model prog w) hp (typeLookup (.ref C) "__init__") (some (.ref fI))) (hb : ∀ self, W.Looks (model prog w) hp (bindSpecial (.ref fI) self) (.ref fI, [self])) (hrest : rest.length ≤ sizeLine)
    (hq : codeAny (model prog w) (A.under (.builtin "type.__call__" ⟨.ref C :: rest, kw⟩)) (.call (.ref fI) ⟨.ref (hp.objs.size + 1) :: rest, kw⟩) (W.InitBack (hp.objs.size + 1) R)
      ⟨(hp.push (W.kdv_tup rest)).push (excO C hp.objs.size), g, d, t, os⟩) :
    codeAny (model prog w) A (.call (.ref C) ⟨rest, kw⟩) R ⟨hp, g, d, t, os⟩ := by
  have f1 := tc_lookup
  have f2 := tc_bind (.ref C)
  have isC : (⟨hp, g, d, t, os⟩ : Shared).TypeIs (.ref C) "type" := ⟨_, hC, rfl⟩
  have kept : ∀ b o, hp.get? b = some o → ((hp.push (W.kdv_tup rest)).push (excO C hp.objs.size)).get? b = some o := fun b o e => Heap.get?_push_of_some _ (Heap.get?_push_of_some _ e)
  have inB : (Value.ref C :: bm).contains (.type B) = true := by rw [List.contains_cons, hT, FB.hasB, Bool.or_true]
  have noA : (Value.ref C :: bm).contains (.type "AttributeError") = false := by rw [List.contains_cons, hT, FB.noAttr]; rfl
  have noN : (Value.ref C :: bm).contains (.type "NameError") = false := by rw [List.contains_cons, hT, FB.noName]; rfl
  have inC : (Value.ref C :: bm).contains (.ref C) = true := by simp
  have ends := FB.ends
  have star := FB.noStar
  apply codeAny_of_tree
  show wpAny _ _ (callAny (.ref C) _) _ _ _
  repeat (any_goals (first | assumption | with_reducible refine wpAny_loadPart_at hC ?_ | wp_step))
  refine ⟨rfl, ?_⟩
  apply codeAny_call_builtin_at (Code.quiet_builtin _ (by decide +kernel)) entry_typeCall
  apply wpAny_check_type_call_sub hC
  repeat (first | with_reducible refine wpAny_loadPart_at hC ?_ | with_reducible refine wpAny_madeBy_exc hC ?_ | wp_step)
  apply codeAny_call_builtin_code (Code.quiet_builtin _ FB.quiet)
  simp only [checkBuiltinCall, FB.newKind, FB.newSplit, FB.newRow]
  repeat (first | refine wpAny_loadPart_at hC ?_ | (refine wpAny_isSubtype_exc hC ?_; rw [inB]) | refine wpAny_staticBase_exc hC ?_ | refine wpAny_madeBy_exc hC ?_ | simp only [bne_self_eq_false, Bool.false_eq_true, if_false] | wp_step)
  show codeAny _ _ (Code.builtin newId { pos := Value.ref C :: rest, kw := kw }) _ _
  refine codeAny_builtinAt FB.entry ?_
  unfold Builtin.«BaseException.__new__»
  apply wpAt_bind
  show wpAt _ _ _ (stack >>= _) _ _ _
  refine wpAt_bind (wpAt_stack fun p below => wpAt_of_wpAny ?_)
  wp_walk
  apply wpAt_of_wpAny
  rw [FB.owner]
  repeat (first | with_reducible refine wpAny_madeHere_exc FB.canon hC ?_ | with_reducible refine wpAny_loadPart_at hC ?_ | (with_reducible refine wpAny_isSubtype_exc hC ?_; first | rw [inB] | rw [noA] | rw [noN]) | wp_step)
  show wpAny _ _ _ _ _ _
  rw [Heap.size_push]
  have hC₁ := kept _ _ hC
  have new : ((hp.push (W.kdv_tup rest)).push (excO C hp.objs.size)).get? (hp.objs.size + 1) = some (excO C hp.objs.size) := by heap_get
  have i1 := hi.keeps kept
  have b1 := (hb (.ref (hp.objs.size + 1))).keeps kept
  show wpAny _ _ (isSubtype (.ref C) (.ref C)) _ _ ⟨(hp.push (W.kdv_tup rest)).push (excO C hp.objs.size), g, d, t, os⟩
  refine wpAny_isSubtype_exc hC₁ ?_
  rw [inC]
  repeat (first | with_reducible refine wpAny_loadPart_at new ?_ | wp_step)
  show wpAny _ _ (typeLookup (.ref C) _) _ _ _
  apply i1.at
  apply wpAny_holding
  apply wpAny_bind
  apply b1.at
  apply wpAny_bind
  apply wpAny_call
  refine codeAny_mono hq fun r s' z => ?_
  rcases r with e | (v | _ | _ | _) <;> first | exact z | exact z.elim | skip
  obtain ⟨rfl, z⟩ := z
  first
    | exact wpAny_pure (wpAny_pure z)
    | (wp_walk; exact z)
end
end GX
end PySem
set_option maxHeartbeats 4000000
namespace GL
open PySem PySem.Spec PyProof.Rows L2
/-! ### the hook: the library's facts, and any Bool over the written part, the table of modules in it -/
def kOf (n : Nat) (g : Addr → Option Obj) : PySem.W.Frag := He.frG g (sysModules :: He.asD g n)
abbrev AlX : Type := He.AlD × Bool
def obsX (n : Nat) (fa : List He.Fa) (fn : List He.DefD) (ex : PySem.W.Frag → Bool) (g : Addr → Option Obj) : AlX := (He.obsD fa fn (kOf n g), ex (kOf n g))
def hookX (n : Nat) (fa : List He.Fa) (fn : List He.DefD) (ex : PySem.W.Frag → Bool) : PySem.W.Hook where
  α := AlX
  obs := fun s => obsX n fa fn ex s.heap.get?
  val := fun _ => (He.valD fn, true)
  says := fun _ h => ∃ K : PySem.W.Frag, K.In h ∧ He.SaysD fa fn K ∧ ex K = true
  of := fun _ _ e => ⟨_, He.frG_in, congrArg (fun z : AlX => z.1) e, congrArg (fun z : AlX => z.2) e⟩
  keeps := fun _ _ _ ⟨K, hK, c⟩ k => ⟨K, PySem.W.Frag.In.keeps hK k, c⟩
theorem obsX_eq {n : Nat} {fa : List He.Fa} {fn : List He.DefD} {ex : PySem.W.Frag → Bool} {g : Addr → Option Obj} {s : Shared} (h : ∀ a, g a = s.heap.get? a) : obsX n fa fn ex g = (hookX n fa fn ex).obs s := by
  have e : g = s.heap.get? := funext h
  rw [e]
  rfl
def sysB (K : PySem.W.Frag) : Bool := match K.lookup sysModules with
  | some ⟨_, _, .dict _ _, _⟩ => true
  | _ => false
theorem sysB_ok {K : PySem.W.Frag} (h : sysB K = true) : SysK K := by
  unfold sysB at h
  cases q : K.lookup sysModules with
  | none =>
    rw [q] at h
    cases h
  | some o =>
    obtain ⟨c, dd, dt, sl⟩ := o
    rw [q] at h
    cases dt with
    | dict es ep => exact ⟨_, es, ep, q, rfl⟩
    | _ => cases h

/-! ### classes of errors -/
inductive EB where
  | ve | le | re
  deriving DecidableEq
def EB.name : EB → String
  | .ve => "ValueError"
  | .le => "LookupError"
  | .re => "RuntimeError"
def EB.new : EB → String
  | .ve => "ValueError.__new__"
  | .le => "LookupError.__new__"
  | .re => "RuntimeError.__new__"
def EB.tail (b : EB) : List Value := [.type b.name, .type "Exception", .type "BaseException", .type "object"]
theorem EB.base (b : EB) : ∃ i, ExcBaseFacts b.name b.new i b.tail := by
  cases b with
  | ve => exact ⟨_, PySem.F.excBase_ValueError⟩
  | le => exact ⟨_, PySem.F.excBase_LookupError⟩
  | re => exact ⟨_, PySem.F.excBase_RuntimeError⟩
theorem EB.store (b : EB) : StoreFacts b.name b.tail "object.__setattr__" "object" := by
  cases b with
  | ve => exact PySem.F.store_ValueError
  | le => exact PySem.F.store_LookupError
  | re => exact PySem.F.store_RuntimeError
theorem EB.obj (b : EB) : b.tail.contains (.type "object") = true := by cases b <;> decide +kernel
/-- what the written part says of a class of errors -/
structure XC (K : PySem.W.Frag) (C : Addr) (b : EB) : Prop where
  cls : ∃ nm q N bs bm sn sub ab col dd k0 k1 k2 k3 k5, K.lookup C = some (excClassObj nm q C N bs bm true sn sub ab col dd k0 k1 k2 k3 k5 b.new) ∧ PySem.W.excTail b.tail bm = true
  sa : PySem.W.findIn K (.ref C) "__setattr__" = some (some (.builtin "object.__setattr__"))
  ga : PySem.W.findIn K (.ref C) "__getattribute__" = some (some (.builtin "BaseException.__getattribute__"))
  gg : PySem.W.findIn K (.ref C) "__getattr__" = some none
  kl : PySem.W.findIn K (.ref C) "__class__" = some (some (.builtin "object.__class__"))
  exB : PySem.W.subIn K (.ref C) (.type "BaseException") = some true
  ob : PySem.W.mroIn K C (.type "object") = some true
  keep : PySem.W.keepIn K (.ref C) = true
def xcB (K : PySem.W.Frag) (C : Addr) (b : EB) : Bool :=
  (match K.lookup C with
  | some ⟨.type "type", _, .cls cd, sl⟩ => (match cd.mro, sl.toList with
    | .ref C' :: bm, [_, _, _, _, some (.builtin n), _] => C' == C && (n == b.new && (!cd.hasDel && (cd.hasDict && PySem.W.excTail b.tail bm)))
    | _, _ => false)
  | _ => false) &&
  (He.eqO (PySem.W.findIn K (.ref C) "__setattr__") (some (some (.builtin "object.__setattr__"))) && (He.eqO (PySem.W.findIn K (.ref C) "__getattribute__") (some (some (.builtin "BaseException.__getattribute__"))) &&
  (He.eqO (PySem.W.findIn K (.ref C) "__getattr__") (some none) && (He.eqO (PySem.W.findIn K (.ref C) "__class__") (some (some (.builtin "object.__class__"))) &&
  (decide (PySem.W.subIn K (.ref C) (.type "BaseException") = some true) && (decide (PySem.W.mroIn K C (.type "object") = some true) && PySem.W.keepIn K (.ref C)))))))
theorem xcB_ok {K : PySem.W.Frag} {C : Addr} {b : EB} (h : xcB K C b = true) : XC K C b := by
  obtain ⟨h0, h⟩ := He.ba h
  obtain ⟨h1, h⟩ := He.ba h
  obtain ⟨h2, h⟩ := He.ba h
  obtain ⟨h3, h⟩ := He.ba h
  obtain ⟨h4, h⟩ := He.ba h
  obtain ⟨h5, h⟩ := He.ba h
  obtain ⟨h6, h7⟩ := He.ba h
  refine ⟨?_, He.eqO_ok h1, He.eqO_ok h2, He.eqO_ok h3, He.eqO_ok h4, of_decide_eq_true h5, of_decide_eq_true h6, h7⟩
  split at h0
  · rename_i dd cd sl ho
    split at h0
    · rename_i C' bm k0 k1 k2 k3 n k5 hm hs
      simp only [Bool.and_eq_true, beq_iff_eq, Bool.not_eq_true'] at h0
      obtain ⟨rfl, rfl, e1, e2, e3⟩ := h0
      obtain ⟨nm, bs, mro, ns, qn, hd, sn, sub, ab, col, del⟩ := cd
      dsimp only at hm e1 e2
      subst hm e1 e2
      have hsl : sl = #[k0, k1, k2, k3, some (.builtin b.new), k5] := by
        obtain ⟨l⟩ := sl
        simp only at hs
        rw [hs]
      subst hsl
      exact ⟨nm, qn, ns, bs, bm, sn, sub, ab, col, dd, k0, k1, k2, k3, k5, ho, e3⟩
    · cases h0
  · cases h0
theorem XC.data {K : PySem.W.Frag} {C : Addr} {b : EB} (T : XC K C b) : ∃ cd, PySem.W.clsIn K C = some cd ∧ PySem.W.excTail b.tail cd.mro = true ∧ cd.hasDict = true := by
  obtain ⟨nm, q, N, bs, bm, sn, sub, ab, col, dd, k0, k1, k2, k3, k5, hC, hbm⟩ := T.cls
  refine ⟨{ name := nm, bases := bs, mro := .ref C :: bm, ns := N, qualname := q, hasDict := true, slotNames := sn, subclasses := sub, abstract := ab, collection := col, hasDel := false }, ?_, hbm, rfl⟩
  unfold PySem.W.clsIn
  rw [hC]

section
variable {X : Cx} {pins : List (Addr × Obj)} {σ : L2.St} {H : Hp} {s : Shared} {a C dx : Addr} {b : EB} {f : Str} {y : V} {u : Value} {fs : List (Str × V)} {Q : Unit → Shared → Prop} {E : Value → Shared → Prop} {A : Around}
theorem put_first (T : XC X.K C b) (I : Inv X pins σ H s) (e : H a = some (exo a C none)) (hno : PySem.W.findIn X.K (.ref C) f = some none) (ry : RelV y u)
    (h : ∀ dx s', H dx = none → dx ≠ a → Inv X pins σ (upd (upd H dx (exd dx [(f, y)])) a (exo a C (some dx))) s' → Q () s') : wpAny (model X.prog X.w) A (setAttr (.ref a) f u) Q E s := by
  obtain ⟨cd, hcl, tl, hd⟩ := T.data
  obtain ⟨t1, ho⟩ := exo_at I.hok e
  rcases s with ⟨hp, g, d, t, os⟩
  refine PySem.W.set_plain I.kIn (ox := { cls := .ref C, dict := none, data := .fields #[.ref t1, .none, .none, .none, .bool false, .none] }) (od := none) ⟨ho, rfl, rfl, trivial⟩ T.sa ?_
  refine PySem.GX.store_first b.store rfl b.obj I.kIn ho hcl tl hd hno (fun h' tk' dx k dn dne hx hn => ?_)
  have newD : H dx = none := I.hok.fresh dn
  have offD : ∀ {c : Addr} {o : Obj}, hp.get? c = some o → c ≠ dx := fun q => Nat.ne_of_lt (Nat.lt_of_lt_of_le (Heap.lt_size q) dn)
  have offA : ∀ {c : Addr}, H c = none → c ≠ a := by
    rintro c n rfl
    rw [e] at n
    cases n
  refine h dx _ newD dne (I.un (t' := tk') ?_ fun c o q => ?_)
  · exact {
      keep := fun c o q n _ _ => k c o (offA n) q
      slot := fun c o q n _ _ => ⟨o.slots, k c o (offA n) q⟩
      free := fun c o q n _ => by rw [upd_ne (offA n), upd_ne (offD q)]; exact n
      there := fun c o q _ => by
        by_cases hc : c = a
        · exact ⟨_, by rw [hc]; exact hx⟩
        · exact ⟨o, k c o hc q⟩
      tups := fun c xs q => by rw [upd_ne (at_ne e q exo_tup), upd_ne (ne_of_none q newD)]; exact q
      frzs := fun c o v q => by rw [upd_ne (at_ne e q exo_frz), upd_ne (ne_of_none q newD)]; exact q
      tbls := fun c ps q => ⟨#[], by rw [upd_ne (at_ne e q exo_tbl), upd_ne (ne_of_none q newD), q]; simp⟩ }
  · by_cases hc : c = a
    · subst hc
      rw [upd_same] at q
      cases q
      exact exo_ok hx
    · rw [upd_ne hc] at q
      by_cases hd : c = dx
      · subst hd
        rw [upd_same] at q
        cases q
        exact exd_ok hn (relO_put (fs := []) ry fun g => True.intro)
      · rw [upd_ne hd] at q
        refine (I.hok c o q).stay (fun c' v hc' z => k c' v ?_ z) (fun c' hc' => ?_) (fun c' xs hc' => ?_)
        · rcases hc' with hc' | hc'
          · rw [hc']
            exact hc
          · exact at_ne e hc' exo_own
        · rw [upd_ne (at_ne e hc' exo_own), upd_ne (ne_of_none hc' newD)]
          exact hc'
        · rw [upd_ne (at_ne e hc' exo_tup), upd_ne (ne_of_none hc' newD)]
          exact hc'
theorem put_next (T : XC X.K C b) (I : Inv X pins σ H s) (e : H a = some (exo a C (some dx))) (ed : H dx = some (exd dx fs)) (hl : fs.length ≤ 900) (hno : PySem.W.findIn X.K (.ref C) f = some none) (ry : RelV y u)
    (h : ∀ s', Inv X pins σ (upd H dx (exd dx ((f, y) :: fs))) s' → Q () s') : wpAny (model X.prog X.w) A (setAttr (.ref a) f u) Q E s := by
  obtain ⟨cd, hcl, tl, hd⟩ := T.data
  obtain ⟨t1, ho⟩ := exo_at I.hok e
  obtain ⟨mA, hns, rel⟩ := exd_at I.hok ed
  have hw := within_of rel
  rcases s with ⟨hp, g, d, t, os⟩
  obtain ⟨oD, _, _, hoD, _, _⟩ := hns.count hw
  refine PySem.W.set_plain I.kIn (ox := { cls := .ref C, dict := some dx, data := .fields #[.ref t1, .none, .none, .none, .bool false, .none] }) (od := some oD) ⟨ho, rfl, rfl, hoD⟩ T.sa ?_
  refine PySem.GX.store_next b.store rfl b.obj I.kIn ho hns hw (by rw [List.length_map]; omega) hcl tl hd hno (fun h' tk' k hn => ?_)
  have hd : ∃ o, h'.get? dx = some o := by
    obtain ⟨o, _, _, e', _⟩ := hn
    exact ⟨o, e'⟩
  exact h _ (I.write (t' := tk') (x := dx) (e := dx) (o := exd dx ((f, y) :: fs)) (by rw [ed]; exact True.intro) (.inl rfl) k hd (exd_ok hn (relO_put ry rel)))
end
/-- self.f = e in an __init__ of an error -/
def tPut (K : PySem.W.Frag) (f : Str) (to te : TE) : TS := fun D σ H => te σ H fun y H1 => to σ H1 fun x H2 => ∃ (a C : Addr) (b : EB), x = .ref a ∧ XC K C b ∧ PySem.W.findIn K (.ref C) f = some none ∧
  ((H2 a = some (exo a C none) ∧ ∀ dx, H2 dx = none → dx ≠ a → D.nx σ (upd (upd H2 dx (exd dx [(f, y)])) a (exo a C (some dx)))) ∨
    ∃ (dx : Addr) (fs : List (Str × V)), H2 a = some (exo a C (some dx)) ∧ H2 dx = some (exd dx fs) ∧ fs.length ≤ 900 ∧ D.nx σ (upd H2 dx (exd dx ((f, y) :: fs))))
section
variable {X : Cx} {o e : Expr} {es : List Expr} {to te : TE} {ta : TA} {f : Str} {p p' p1 p2 pos : Pos}
theorem ps_put (ho : PE X o to) (he : PE X e te) (hs : swapsWith e (some (.Attribute o f p')) pos.line X.env = pure false := by rfl) : PS X (.Assign [.Attribute o f p'] e pos) (tPut X.K f to te) := by
  constructor
  intro pins s σ H D I h
  refine plainObj_wpAny_Assign_Attribute (thn (he.run pins s σ H _ I h) ?_) hs
  rintro v s1 ⟨y, H1, I1, r1, q1⟩
  refine thn (ho.run pins s1 σ H1 _ I1 q1) ?_
  rintro u s2 ⟨x, H2, I2, r2, a, C, b, rfl, T, hno, q⟩
  cases (show u = Value.ref a from r2)
  rcases q with ⟨ea, q⟩ | ⟨dx, fs, ea, ed, hl, q⟩
  · exact put_first T I2 ea hno r1 fun dx s' n ne J => ⟨σ, _, J, q dx n ne⟩
  · exact put_next T I2 ea ed hl hno r1 fun s' J => ⟨σ, _, J, q⟩

/-! ### an error made, as a value -/
/-- its __init__ runs with these parameters -/
def tErr (C : Addr) (sp : Sp) (t : TA) : TE := fun σ H Q => t σ H fun vs H1 => vs.length ≤ 1000 ∧ ∀ a, H1 a = none → sp (.ref a :: vs) (upd H1 a (exo a C none)) (fun v H2 => v = .non ∧ Q (.ref a) H2) E0
theorem run_err {pins : List (Addr × Obj)} {σ : L2.St} {H : Hp} {s : Shared} {Q : VK} {C fI : Addr} {b : EB} {k : Nat} {fd : FuncData} {ps : List Str} {sp : Sp} {us all : List Value} {kw : List (Str × Value)} {vs : List V} (T : XC X.K C b)
    (iC : PySem.W.findIn X.K (.ref C) "__init__" = some (some (.ref fI))) (tI : PySem.W.typeIn X.K (.ref fI) = some (.type "function")) (F1 : FnOk X.prog X.w X.K X.mg X.base CX0 k fI fd ps sp) (hr : Room (k + 1) X.A)
    (hb : ∀ (s' : Shared) (z : Value), X.K.In s'.heap → BindsTo s' fd ⟨z :: us, kw⟩ (ps.zip (z :: all))) (hl : us.length ≤ 1000) (I : Inv X pins σ H s) (r : Vals vs all)
    (h : ∀ a, H a = none → sp (.ref a :: vs) (upd H a (exo a C none)) (fun v H2 => v = .non ∧ Q (.ref a) H2) E0) :
    wpAny (model X.prog X.w) X.A (PySem.call (.ref C) us kw) (EP X pins σ Q) X.xe s := by
  obtain ⟨nm, q, N, bs, bm, sn, sub, ab, col, dd, k0, k1, k2, k3, k5, hC, hbm⟩ := T.cls
  obtain ⟨i, FB⟩ := b.base
  rcases s with ⟨hp, g, dr, tk, os⟩
  have hsz : hp.objs.size ≤ hp.objs.size + 1 := Nat.le_succ _
  have hn : H (hp.objs.size + 1) = none := I.hok.fresh hsz
  have hq := h (hp.objs.size + 1) hn
  have kk : ∀ b o, hp.get? b = some o → ((hp.push (PySem.W.kdv_tup us)).push (PySem.HandSPX.excO C hp.objs.size)).get? b = some o := fun b o e => Heap.get?_push_of_some _ (Heap.get?_push_of_some _ e)
  have hget : ((hp.push (PySem.W.kdv_tup us)).push (PySem.HandSPX.excO C hp.objs.size)).get? (hp.objs.size + 1) = some (PySem.HandSPX.excO C hp.objs.size) := by heap_get
  have J : Inv X pins σ (upd H (hp.objs.size + 1) (exo (hp.objs.size + 1) C none)) ⟨(hp.push (PySem.W.kdv_tup us)).push (PySem.HandSPX.excO C hp.objs.size), g, dr, tk, os⟩ := I.laid (t' := tk) kk hsz (exo_ok hget)
  have rr : Vals (V.ref (hp.objs.size + 1) :: vs) (Value.ref (hp.objs.size + 1) :: all) := .cons rfl r
  have small : us.length ≤ sizeLine := by
    rw [sizeLine_eq]
    omega
  refine wpAny_call (PySem.GX.made FB (fun Y => PySem.W.excTail_contains Y bm hbm) (I.kIn _ _ hC) (PySem.W.looks_findIn I.kIn iC) (fun self => PySem.W.bind_fn I.kIn self tI) small ?_)
  refine codeAny_mono (F1.run _ X.stack _ _ ⟨Value.ref (hp.objs.size + 1) :: us, kw⟩ (Value.ref (hp.objs.size + 1) :: all) _ _ E0 (hr.make C us kw) (J.env0.make C us kw) (hb _ _ J.kIn) rr hq) ?_
  intro r' s' z
  match r', z with
  | .error er, z => exact False.elim z
  | .ok .next, z => exact False.elim z
  | .ok .brk, z => exact False.elim z
  | .ok .cont, z => exact False.elim z
  | .ok (.ret u), z =>
    obtain ⟨v, H', K1, rv, rfl, q3⟩ := J.after z
    exact ⟨rv, V.ref (hp.objs.size + 1), H', K1, rfl, q3⟩
theorem pe_err {x : Str} {C fI : Addr} {b : EB} {k : Nat} {fd : FuncData} {ps : List Str} {sp : Sp} (T : XC X.K C b) (iC : PySem.W.findIn X.K (.ref C) "__init__" = some (some (.ref fI))) (tI : PySem.W.typeIn X.K (.ref fI) = some (.type "function"))
    (F1 : FnOk X.prog X.w X.K X.mg X.base CX0 k fI fd ps sp) (hr : Room (k + 1) X.A) (hb : Binds X.K fd ps []) (hg : Gl X x) (hm : X.mg x = some (.ref C)) (ha : PA X (e :: es) ta)
    (hdb : (x == ("__debug__" : Str)) = false := by decide) (he : starEach (e :: es) X.env = (false, eval e X.env) :: starEach es X.env := by rfl) (hpl : (backTo pos (starEach es X.env)).any (·.1) = false := by rfl) :
    PE X (.Call (.Name x p) (e :: es) [] pos) (tErr C sp ta) := by
  constructor
  intro pins s σ H Q I h
  apply wpAny_Call_Name_kw
  refine ld_glob I hg hm ?_ hdb
  refine PySem.W.callWith_K (h₀ := X.base) I.ok.mod.kin T.keep (thn (ha.run pos pins s σ H _ I h) ?_) he hpl
  rintro us s1 ⟨vs, H1, I1, r1, hz, q1⟩
  refine ⟨I1.kIn, run_err T iC tI F1 hr (all := us) (fun s' z kin => ?_) (by show us.length ≤ 1000; rw [← Paired.length r1]; exact hz) I1 r1 q1⟩
  have l := F1.len _ _ _ _ (q1 s1.heap.objs.size (I1.hok.fresh (Nat.le_refl _)))
  have b := hb s' (z :: us) kin (by rw [List.append_nil, ← l, List.length_cons, List.length_cons, Paired.length r1])
  simpa using b
end

/-! ### an error's field, isinstance of an error -/
/-- an error of the class at C with these fields -/
def ErrAt (H : Hp) (e C : Addr) (fs : List (Str × V)) : Prop := (fs = [] ∧ H e = some (exo e C none)) ∨ ∃ d, H e = some (exo e C (some d)) ∧ H d = some (exd d fs)
theorem ErrAt.same {H H' : Hp} {e C : Addr} {fs : List (Str × V)} (h : ErrAt H e C fs) (k : Same H H') : ErrAt H' e C fs := by
  rcases h with ⟨rfl, a⟩ | ⟨d, a, b⟩
  · exact .inl ⟨rfl, k _ _ a⟩
  · exact .inr ⟨d, k _ _ a, k _ _ b⟩
theorem ErrAt.inst {X : Cx} {pins : List (Addr × Obj)} {σ : L2.St} {H : Hp} {s : Shared} {e C : Addr} {fs : List (Str × V)} (I : Inv X pins σ H s) (h : ErrAt H e C fs) : ∃ ox od, PySem.W.InstAt s.heap e ox C od ∧ ∀ f v, fs.lookup f = some v → ∃ u oD, od = some oD ∧ RelV v u ∧ PySem.W.lookIn f oD = some (some u) := by
  rcases h with ⟨rfl, a⟩ | ⟨d, a, b⟩
  · obtain ⟨t, ho⟩ := exo_at I.hok a
    exact ⟨_, none, ⟨ho, rfl, rfl, trivial⟩, fun f v z => nomatch z⟩
  · obtain ⟨t, ho⟩ := exo_at I.hok a
    obtain ⟨mA, hns, hr⟩ := exd_at I.hok b
    obtain ⟨oD, hD, hl⟩ := lookIn_ns hns
    refine ⟨_, some oD, ⟨ho, rfl, rfl, hD⟩, fun f v z => ?_⟩
    obtain ⟨u, hu, ru⟩ := RelO.some_of (v := v) (o := mA f) (by rw [← z]; exact hr f)
    exact ⟨u, oD, rfl, ru, by rw [hl, hu]⟩
def tErrFld (K : PySem.W.Frag) (te : TE) (f : Str) : TE := fun σ H Q => te σ H fun x H1 => ∃ (a C : Addr) (b : EB) (fs : List (Str × V)) (v : V), x = .ref a ∧ XC K C b ∧ PySem.W.findIn K (.ref C) f = some none ∧ ErrAt H1 a C fs ∧ fs.lookup f = some v ∧ Q v H1
theorem pe_errfld {X : Cx} {e : Expr} {te : TE} {f : Str} {pos : Pos} (he : PE X e te) (hb : attributeBase e f X.env (eval e X.env) = eval e X.env := by rfl) : PE X (.Attribute e f pos) (tErrFld X.K te f) := by
  constructor
  intro pins s σ H Q I h
  refine attr_of hb (thn (he.run pins s σ H _ I h) ?_)
  rintro u s1 ⟨x, H1, I1, rx, a, C, b, fs, v, rfl, T, no, ea, l, q⟩
  cases (show u = Value.ref a from rx)
  obtain ⟨ox, od, J, look⟩ := ea.inst I1
  obtain ⟨u, oD, rfl, ru, hl⟩ := look f v l
  obtain ⟨cd, hcl, _, hd⟩ := T.data
  have hdct : PySem.W.hasDictIn X.K C = true := by
    unfold PySem.W.hasDictIn
    rw [hcl]
    exact hd
  exact HandSPX.exc_get I1.kIn J T.ga T.gg T.exB (PySem.W.findObj_own hdct no rfl hl) (handed_of ru) ⟨v, H1, I1.tok _, ru, q⟩
def rErrIs (K : PySem.W.Frag) : List V → Hp → VK → Prop := fun xs H Q => ∃ (a C : Addr) (b : EB) (fs : List (Str × V)) (c : V) (cv : Value) (k : Bool), xs = [.ref a, c] ∧ XC K C b ∧ ErrAt H a C fs ∧ ClsV c cv ∧ PySem.W.kitOne K (.ref C) cv = some k ∧ Q (.bl k) H
theorem call_errIs {X : Cx} (hn : PySem.W.specialIn X.K (.builtin "object.__class__") "__get__" = some (some (.builtin "getset_descriptor.__get__"))) (ht : PySem.W.takesIn X.K (.builtin "object.__class__") = some true) : CallR X (.builtin "isinstance") (rErrIs X.K) := by
  intro pins s σ H xs us Q I r h
  obtain ⟨a, C, b, fs, c, cv, k, rfl, T, ea, hc, e, q⟩ := h
  obtain ⟨u1, u2, rfl, r1, r2⟩ := vals2 r
  cases (show u1 = Value.ref a from r1)
  cases hc.eq r2
  obtain ⟨ox, od, J, _⟩ := ea.inst I
  obtain ⟨cd, hcl, _, _⟩ := T.data
  exact PySem.W.kia_one (PySem.W.kitx_exc (by rw [hcl]; rfl) T.ga T.gg T.exB T.kl hn ht T.ob) I.kIn J e (fun z => nomatch z) fun tk => ⟨.bl k, H, I.tok tk, rfl, q⟩
end GL
set_option maxHeartbeats 4000000
namespace GL
open PySem PySem.Spec PyProof.Rows L2
theorem PE.imp {X : Cx} {e : Expr} {t t' : TE} (h : PE X e t) (k : ∀ σ H Q, t' σ H Q → t σ H Q) : PE X e t' := ⟨fun pins s σ H Q I q => h.run pins s σ H Q I (k σ H Q q)⟩
theorem PA.imp {X : Cx} {es : List Expr} {t t' : TA} (h : PA X es t) (k : ∀ σ H Q, t' σ H Q → t σ H Q) : PA X es t' := ⟨fun pos pins s σ H Q I q => h.run pos pins s σ H Q I (k σ H Q q)⟩
theorem fun_of {K : PySem.W.Frag} {x q : Str} {st : Stmt} {kws : List (Str × V)} {f : Addr} {fd : FuncData} (F : FunD K x q (defArgs st) (defBody st) (defScope st) [] kws f fd) : L2.Fun K x q st f fd := by
  obtain ⟨⟨oc, od, dV, kV, doc, pm, an, cdv, ct, osl, e, lk, hcd, hD, hK⟩, kp⟩ := F
  rcases hD with ⟨_, rfl⟩ | ⟨z, _⟩
  · exact ⟨⟨oc, od, kV, doc, pm, an, cdv, ct, osl, e, lk, hcd⟩, kp⟩
  · exact absurd rfl z
/-- C(k = v, ..) of an error: its parameters' values are all, by the keywords' -/
def tErrK (C : Addr) (sp : Sp) (g : List V → List V) (t : TA) : TE := fun σ H Q => t σ H fun zs H1 => ∀ a, H1 a = none → sp (.ref a :: g zs) (upd H1 a (exo a C none)) (fun v H2 => v = .non ∧ Q (.ref a) H2) E0
section
variable {X : Cx} {p pos : Pos} {kws : List Keyword} {tk : TA} {x : Str} {C fI : Addr} {b : EB} {k : Nat} {fd : FuncData} {ps ks : List Str} {sp : Sp}
theorem pe_errK {gV : List V → List V} {gU : List Value → List Value} (T : XC X.K C b) (iC : PySem.W.findIn X.K (.ref C) "__init__" = some (some (.ref fI))) (tI : PySem.W.typeIn X.K (.ref fI) = some (.type "function")) (F1 : FnOk X.prog X.w X.K X.mg X.base CX0 k fI fd ps sp)
    (hr : Room (k + 1) X.A) (hb : ∀ (s : Shared) (z : Value) (us : List Value), us.length = ks.length → BindsTo s fd ⟨[z], ks.zip us⟩ (ps.zip (z :: gU us))) (hg : Gl X x) (hm : X.mg x = some (.ref C)) (hkw : PK X kws tk)
    (hrel : ∀ {zs : List V} {us : List Value}, Vals zs us → Vals (gV zs) (gU us)) (hlen : ∀ {σ : L2.St} {H : Hp} {Q : List V → Hp → Prop}, tk σ H Q → tk σ H fun zs H' => zs.length = ks.length ∧ Q zs H')
    (hall : (backToKw pos (keywordEach kws X.env)).all (·.1.isSome) = true := by rfl) (hks : (backToKw pos (keywordEach kws X.env)).filterMap (·.1) = ks := by rfl) (hdb : (x == ("__debug__" : Str)) = false := by decide)
    (hpl : ((backTo pos (starEach [] X.env)).any (·.1) || (backToKw pos (keywordEach kws X.env)).any (·.1.isNone)) = false := by rfl) :
    PE X (.Call (.Name x p) [] kws pos) (tErrK C sp gV tk) := by
  constructor
  intro pins s σ H Q I h
  apply wpAny_Call_Name_kw
  refine ld_glob I hg hm ?_ hdb
  refine PySem.W.callWith_KW0 (h₀ := X.base) I.ok.mod.kin T.keep hall ?_ hpl
  refine thn (hkw.run pos pins s σ H _ I (hlen h)) ?_
  rintro ws s2 ⟨zs, H2, I2, rz, lz, q⟩
  refine ⟨I2.kIn, ?_⟩
  rw [hks]
  exact run_err (us := []) T iC tI F1 hr (fun s' z _ => hb s' z ws (by rw [← Paired.length rz]; exact lz)) (Nat.zero_le _) I2 (hrel rz) q
end
/-- C() of an error class without an __init__ of its own -/
theorem pe_err0 {X : Cx} {C : Addr} {b : EB} {x : Str} {p pos : Pos} (q : PySem.W.excIn X.K C b.tail b.new = true) (gC : X.mg x = some (.ref C)) (kC : PySem.W.keepIn X.K (.ref C) = true) (hg : Gl X x) (hdb : (x == ("__debug__" : Str)) = false := by decide) :
    PE X (.Call (.Name x p) [] [] pos) (fun σ H Q => ∀ a, H a = none → Q (.ref a) (upd H a (exo a C none))) := by
  constructor
  intro pins s σ H Q I h
  apply wpAny_Call_Name_kw
  refine ld_glob I hg gC ?_ hdb
  apply PySem.W.callWith_K0 I.kIn kC
  obtain ⟨i, FB⟩ := b.base
  rcases s with ⟨hp, g, d, t, os⟩
  obtain ⟨bm, N, nm, qn, bs, hdct, sn, sub, ab, col, dd, k0, k1, k2, k3, k5, mN, hC, hN, hni, T⟩ := exc_obj I.kIn q
  refine wpAny_call_exc_subT FB T hC hN hni (fun h' a hm => ?_) (by show 0 ≤ sizeLine; exact Nat.zero_le _)
  have hn : H a = none := I.hok.gone hm.new
  obtain ⟨t, ht, _, _⟩ := hm.there
  exact ⟨.ref a, upd H a (exo a C none), I.laidN hm.keeps hm.new hn (exo_ok ht), rfl, h a hn⟩

/-! ### an __init__ that stores its parameters -/
def spInit (C : Addr) (fl : List Str) : Sp := fun vs H Q _ => ∃ (a : Addr) (ys : List V), vs = .ref a :: ys ∧ ys.length = fl.length ∧ H a = some (exo a C none) ∧
  ∀ dx H', H dx = none → dx ≠ a → H' a = some (exo a C (some dx)) → H' dx = some (exd dx (fl.zip ys).reverse) → (∀ b o, H b = some o → b ≠ a → H' b = some o) → Q .non H'
section
variable {P : Program} {w : World} {K : PySem.W.Frag} {mg : Str → Option Value} {base : Heap} {st : Stmt} {qual f1 f2 f3 : Str} {C fI : Addr} {b : EB} {fd : FuncData} {q1 q2 q3 q4 r1 r2 r3 r4 z1 z2 z3 z4 : Pos}
theorem swap_name {n : Str} {pp : Pos} {o : Option Expr} {l : Nat} {env : Env} : swapsWith (.Name n pp) o l env = pure false := by rfl
theorem ok_init1 (F : L2.Fun K "__init__" qual st fI fd) (T : XC K C b) (n1 : PySem.W.findIn K (.ref C) f1 = some none) (hb : defBody st = [.Assign [.Attribute (.Name "self" q1) f1 q2] (.Name f1 q3) q4])
    (S : FnScope ["self", f1] ["self", f1] (defScope st)) (v0 : (defScope st).names.lookup ("self" : Str) = some .local) (v1 : (defScope st).names.lookup f1 = some .local) (d1 : (f1 == ("__debug__" : Str)) = false) (c1 : (f1 == ("__classdict__" : Str)) = false) :
    FnOk P w K mg base CX0 1 fI fd ["self", f1] (spInit C [f1]) := by
  refine F.ok S (fun vs H Q E h => ?_) (fun cdv A outer s H vs Q E hr h => ?_)
  · obtain ⟨a, ys, rfl, l, _⟩ := h
    exact congrArg Nat.succ l
  · obtain ⟨a, ys, rfl, l, ha, k⟩ := h
    rw [hb]
    match ys, l with
    | [y], _ =>
      refine ⟨_, pss_one (ps_put (pe_var (i := 0) rfl (.inl v0)) (pe_var (i := 1) rfl (.inl v1) d1 c1) swap_name), ?_⟩
      refine ⟨y, rfl, .ref a, rfl, a, C, b, rfl, T, n1, .inl ⟨ha, fun dx hd hne => ?_⟩⟩
      exact k dx _ hd hne upd_same (by rw [upd_ne hne]; exact upd_same) fun c o e hc => by rw [upd_ne hc, upd_ne (ne_of_none e hd)]; exact e
theorem ok_init2 (F : L2.Fun K "__init__" qual st fI fd) (T : XC K C b) (n1 : PySem.W.findIn K (.ref C) f1 = some none) (n2 : PySem.W.findIn K (.ref C) f2 = some none)
    (hb : defBody st = [.Assign [.Attribute (.Name "self" q1) f1 q2] (.Name f1 q3) q4, .Assign [.Attribute (.Name "self" r1) f2 r2] (.Name f2 r3) r4])
    (S : FnScope ["self", f1, f2] ["self", f1, f2] (defScope st)) (v0 : (defScope st).names.lookup ("self" : Str) = some .local) (v1 : (defScope st).names.lookup f1 = some .local) (v2 : (defScope st).names.lookup f2 = some .local)
    (d1 : (f1 == ("__debug__" : Str)) = false) (c1 : (f1 == ("__classdict__" : Str)) = false) (d2 : (f2 == ("__debug__" : Str)) = false) (c2 : (f2 == ("__classdict__" : Str)) = false) :
    FnOk P w K mg base CX0 1 fI fd ["self", f1, f2] (spInit C [f1, f2]) := by
  refine F.ok S (fun vs H Q E h => ?_) (fun cdv A outer s H vs Q E hr h => ?_)
  · obtain ⟨a, ys, rfl, l, _⟩ := h
    exact congrArg Nat.succ l
  · obtain ⟨a, ys, rfl, l, ha, k⟩ := h
    rw [hb]
    match ys, l with
    | [y, z], _ =>
      refine ⟨_, pss_cons (ps_put (pe_var (i := 0) rfl (.inl v0)) (pe_var (i := 1) rfl (.inl v1) d1 c1) swap_name) (pss_one (ps_put (pe_var (i := 0) rfl (.inl v0)) (pe_var (i := 2) rfl (.inl v2) d2 c2) swap_name)), ?_⟩
      refine ⟨y, rfl, .ref a, rfl, a, C, b, rfl, T, n1, .inl ⟨ha, fun dx hd hne => ?_⟩⟩
      refine ⟨z, rfl, .ref a, rfl, a, C, b, rfl, T, n2, .inr ⟨dx, _, upd_same, (by rw [upd_ne hne]; exact upd_same), (by show 1 ≤ 900; decide), ?_⟩⟩
      exact k dx _ hd hne (by rw [upd_ne hne.symm]; exact upd_same) upd_same fun c o e hc => by rw [upd_ne (ne_of_none e hd), upd_ne hc, upd_ne (ne_of_none e hd)]; exact e
theorem ok_init3 (F : L2.Fun K "__init__" qual st fI fd) (T : XC K C b) (n1 : PySem.W.findIn K (.ref C) f1 = some none) (n2 : PySem.W.findIn K (.ref C) f2 = some none) (n3 : PySem.W.findIn K (.ref C) f3 = some none)
    (hb : defBody st = [.Assign [.Attribute (.Name "self" q1) f1 q2] (.Name f1 q3) q4, .Assign [.Attribute (.Name "self" r1) f2 r2] (.Name f2 r3) r4, .Assign [.Attribute (.Name "self" z1) f3 z2] (.Name f3 z3) z4])
    (S : FnScope ["self", f1, f2, f3] ["self", f1, f2, f3] (defScope st)) (v0 : (defScope st).names.lookup ("self" : Str) = some .local) (v1 : (defScope st).names.lookup f1 = some .local) (v2 : (defScope st).names.lookup f2 = some .local) (v3 : (defScope st).names.lookup f3 = some .local)
    (d1 : (f1 == ("__debug__" : Str)) = false) (c1 : (f1 == ("__classdict__" : Str)) = false) (d2 : (f2 == ("__debug__" : Str)) = false) (c2 : (f2 == ("__classdict__" : Str)) = false) (d3 : (f3 == ("__debug__" : Str)) = false) (c3 : (f3 == ("__classdict__" : Str)) = false) :
    FnOk P w K mg base CX0 1 fI fd ["self", f1, f2, f3] (spInit C [f1, f2, f3]) := by
  refine F.ok S (fun vs H Q E h => ?_) (fun cdv A outer s H vs Q E hr h => ?_)
  · obtain ⟨a, ys, rfl, l, _⟩ := h
    exact congrArg Nat.succ l
  · obtain ⟨a, ys, rfl, l, ha, k⟩ := h
    rw [hb]
    match ys, l with
    | [y, z, u], _ =>
      refine ⟨_, pss_cons (ps_put (pe_var (i := 0) rfl (.inl v0)) (pe_var (i := 1) rfl (.inl v1) d1 c1) swap_name) (pss_cons (ps_put (pe_var (i := 0) rfl (.inl v0)) (pe_var (i := 2) rfl (.inl v2) d2 c2) swap_name)
        (pss_one (ps_put (pe_var (i := 0) rfl (.inl v0)) (pe_var (i := 3) rfl (.inl v3) d3 c3) swap_name))), ?_⟩
      refine ⟨y, rfl, .ref a, rfl, a, C, b, rfl, T, n1, .inl ⟨ha, fun dx hd hne => ?_⟩⟩
      refine ⟨z, rfl, .ref a, rfl, a, C, b, rfl, T, n2, .inr ⟨dx, _, upd_same, (by rw [upd_ne hne]; exact upd_same), (by show 1 ≤ 900; decide), ?_⟩⟩
      refine ⟨u, rfl, .ref a, rfl, a, C, b, rfl, T, n3, .inr ⟨dx, _, (by rw [upd_ne hne.symm]; exact upd_same), upd_same, (by show 2 ≤ 900; decide), ?_⟩⟩
      exact k dx _ hd hne (by rw [upd_ne hne.symm, upd_ne hne.symm]; exact upd_same) upd_same fun c o e hc => by rw [upd_ne (ne_of_none e hd), upd_ne (ne_of_none e hd), upd_ne hc, upd_ne (ne_of_none e hd)]; exact e
end
/-- an error made, told in whole: what was tracked stands, its fields are as its __init__ stores them -/
theorem init_made {C : Addr} {fl : List Str} {H1 : Hp} {Q : VK} {x : Addr} {ys : List V} (hx : H1 x = none) (hl : ys.length = fl.length) (q : ∀ (e : Addr) (H' : Hp), Same H1 H' → H1 e = none → ErrAt H' e C (fl.zip ys).reverse → Q (.ref e) H') :
    spInit C fl (.ref x :: ys) (upd H1 x (exo x C none)) (fun v H2 => v = .non ∧ Q (.ref x) H2) E0 := by
  refine ⟨x, ys, rfl, hl, upd_same, fun dx H' hd hne ha hdx kp => ⟨rfl, q x H' (fun b o e => ?_) hx (.inr ⟨dx, ha, hdx⟩)⟩⟩
  have hb : b ≠ x := ne_of_none e hx
  exact kp b o (by rw [upd_ne hb]; exact e) hb
end GL
set_option maxHeartbeats 4000000
namespace GL
open PySem PySem.Spec PyProof.Rows L2
theorem same_sqT {K : PySem.W.Frag} {H H' : Hp} {a : Addr} {xs : List V} (e : Same H H') (h : SqT K H a xs) : SqT K H' a xs := by
  rcases h with (h | ⟨o, h⟩) | h
  · exact .inl (.inl (e _ _ h))
  · exact .inl (.inr ⟨o, e _ _ h⟩)
  · exact .inr h
mutual
theorem Dq.same {K : PySem.W.Frag} {H H' : Hp} (e : Same H H') : ∀ {v : V} {d : PyData}, Dq K H v d → Dq K H' v d
  | _, _, .non => .non
  | _, _, .bl b => .bl b
  | _, _, .int i => .int i
  | _, _, .str x => .str x
  | _, _, .lst h a => .lst (e.seq h) (DqAll.same e a)
  | _, _, .tup h a => .tup (same_sqT e h) (DqAll.same e a)
  | _, _, .dct h a => .dct (e _ _ h) (DqKv.same e a)
theorem DqAll.same {K : PySem.W.Frag} {H H' : Hp} (e : Same H H') : ∀ {vs : List V} {ds : List PyData}, DqAll K H vs ds → DqAll K H' vs ds
  | _, _, .nil => .nil
  | _, _, .cons a b => .cons (Dq.same e a) (DqAll.same e b)
theorem DqKv.same {K : PySem.W.Frag} {H H' : Hp} (e : Same H H') : ∀ {kvs : List (Key × V)} {ps : List (PyData × PyData)}, DqKv K H kvs ps → DqKv K H' kvs ps
  | _, _, .nil => .nil
  | _, _, .consI a b => .consI (Dq.same e a) (DqKv.same e b)
  | _, _, .consS a b => .consS (Dq.same e a) (DqKv.same e b)
end
theorem paired_rev {α β : Type} {R : α → β → Prop} : ∀ {xs : List α} {ys : List β}, Paired R xs ys → Paired R xs.reverse ys.reverse := by
  have app : ∀ {xs us : List α} {ys ws : List β}, Paired R xs ys → Paired R us ws → Paired R (xs ++ us) (ys ++ ws) := by
    intro xs us ys ws h k
    induction h with
    | nil => exact k
    | cons r _ ih => exact .cons r ih
  intro xs ys h
  induction h with
  | nil => exact .nil
  | cons r _ ih =>
    rw [List.reverse_cons, List.reverse_cons]
    exact app ih (.cons r .nil)
theorem same_new {H : Hp} {p : Addr} {o : HO} (h : H p = none) : Same H (upd H p o) := fun b u e => by
  rw [upd_ne (ne_of_none e h)]
  exact e
theorem del_le {H : Hp} {p : Addr} : Same (del H p) H := fun b o e => by
  by_cases h : b = p
  · rw [h, del_same] at e
    cases e
  · rwa [del_ne h] at e
theorem del_but {H H' : Hp} {p : Addr} (k : ∀ b o, H b = some o → b ≠ p → H' b = some o) : Same (del H p) (del H' p) := fun b o e => by
  by_cases h : b = p
  · rw [h, del_same] at e
    cases e
  · rw [del_ne h] at e ⊢
    exact k b o e h
/-! ### a list comprehension whose element leaves what was tracked as it was -/
theorem take_ext {α : Type} : ∀ {l : List α} {i : Nat} {x : α}, l[i]? = some x → l.take (i + 1) = l.take i ++ [x]
  | a :: l, 0, x, h => by
    cases Option.some.inj h
    rfl
  | a :: l, i + 1, x, h => by
    have ih := take_ext (l := l) (i := i) (x := x) (by simpa using h)
    rw [List.take_succ_cons, ih, List.take_succ_cons]
    rfl
section
variable {K : PySem.W.Frag} {te : TE} {σ : L2.St} {j : Nat} {H1 : Hp} {D a : Addr} {xs : List V} {val : V → V} {Qd : Hp → Prop}
theorem lc_same (hS : SqL K H1 a xs) (hD : H1 D = none) (hl : xs.length < 1000000) (hw : ∀ x, wipe ((wipe σ [j]).set j (some x)) [j] = wipe σ [j])
    (hs : ∀ (i : Nat) (x : V) (H' : Hp) (Q : VK), xs[i]? = some x → Same H1 H' → (∀ H2, Same H' H2 → Q (val x) H2) → te ((wipe σ [j]).set j (some x)) H' Q) (hd : ∀ H', Same H1 H' → H' D = some (.lst (xs.map val)) → Qd H') :
    ∃ W : Nat → Nat → Hp → Prop, (∃ m, W 0 m (upd H1 D (.lst []))) ∧ ∀ i m H, W i m H →
      ((Itl K a).stop i H ∧ Qd H) ∨ ((Itl K a).go i H ∧ ∃ Nx : Hp → Prop, (∀ H', Nx H' → ∃ m', m' < m ∧ W (i + 1) m' H') ∧ ∀ x H', (Itl K a).yld i H x H' → gName j x (wipe σ [j]) H' fun σ2 H2 => wipe σ2 [j] = wipe σ [j] ∧ tYes σ2 H2 fun b H3 =>
        if b = true then te σ2 H3 fun y H4 => ∃ acc, H4 D = some (.lst acc) ∧ acc.length < sizeLine ∧ Nx (upd H4 D (.lst (acc ++ [y]))) else Nx H3) := by
  refine lc_list (K := K) (a := a) (xs := xs) (fun i H => H D = some (.lst ((xs.take i).map val)) ∧ Same H1 H) ⟨upd_same, same_new hD⟩ (fun i H _ ⟨_, s⟩ => s.seq hS) ?_ ?_
  · rintro i x H hi ⟨hd', s⟩
    refine ⟨hw x, ?_⟩
    show te (List.set (wipe σ [j]) j (some x)) H (fun y H4 => ∃ acc, H4 D = some (.lst acc) ∧ acc.length < sizeLine ∧ (upd H4 D (.lst (acc ++ [y])) D = some (.lst ((xs.take (i + 1)).map val)) ∧ Same H1 (upd H4 D (.lst (acc ++ [y])))))
    refine hs i x H _ hi s fun H2 s2 => ⟨_, s2 _ _ hd', ?_, ?_, fun b o e => ?_⟩
    · rw [List.length_map, List.length_take, sizeLine_eq]
      omega
    · rw [take_ext hi, List.map_append, upd_same]
      rfl
    · rw [upd_ne (ne_of_none e hD)]
      exact s2 _ _ (s _ _ e)
  · rintro H ⟨hd', s⟩
    rw [List.take_length] at hd'
    exact hd H s hd'
theorem lc_sameR {lo : Int} {n : Nat} {val : Int → V} (hD : H1 D = none) (hl : n < 1000000) (hw : ∀ x, wipe ((wipe σ [j]).set j (some x)) [j] = wipe σ [j])
    (hs : ∀ (i : Nat) (H' : Hp) (Q : VK), i < n → Same H1 H' → (∀ H2, Same H' H2 → Q (val (lo + i)) H2) → te ((wipe σ [j]).set j (some (.int (lo + i)))) H' Q) (hd : ∀ H', Same H1 H' → H' D = some (.lst ((List.range n).map fun i => val (lo + (i : Nat)))) → Qd H') :
    ∃ W : Nat → Nat → Hp → Prop, (∃ m, W 0 m (upd H1 D (.lst []))) ∧ ∀ i m H, W i m H →
      ((Itr lo n).stop i H ∧ Qd H) ∨ ((Itr lo n).go i H ∧ ∃ Nx : Hp → Prop, (∀ H', Nx H' → ∃ m', m' < m ∧ W (i + 1) m' H') ∧ ∀ x H', (Itr lo n).yld i H x H' → gName j x (wipe σ [j]) H' fun σ2 H2 => wipe σ2 [j] = wipe σ [j] ∧ tYes σ2 H2 fun b H3 =>
        if b = true then te σ2 H3 fun y H4 => ∃ acc, H4 D = some (.lst acc) ∧ acc.length < sizeLine ∧ Nx (upd H4 D (.lst (acc ++ [y]))) else Nx H3) := by
  refine lc_range (lo := lo) (n := n) (fun i H => H D = some (.lst ((List.range i).map fun i => val (lo + (i : Nat)))) ∧ Same H1 H) ⟨upd_same, same_new hD⟩ ?_ ?_
  · rintro i H hi ⟨hd', s⟩
    refine ⟨hw _, ?_⟩
    show te (List.set (wipe σ [j]) j (some (V.int (lo + i)))) H (fun y H4 => ∃ acc, H4 D = some (.lst acc) ∧ acc.length < sizeLine ∧ (upd H4 D (.lst (acc ++ [y])) D = some (.lst ((List.range (i + 1)).map fun i => val (lo + (i : Nat)))) ∧ Same H1 (upd H4 D (.lst (acc ++ [y])))))
    refine hs i H _ hi s fun H2 s2 => ⟨_, s2 _ _ hd', ?_, ?_, fun b o e => ?_⟩
    · rw [List.length_map, List.length_range, sizeLine_eq]
      omega
    · rw [List.range_succ, List.map_append, upd_same]
      rfl
    · rw [upd_ne (ne_of_none e hD)]
      exact s2 _ _ (s _ _ e)
  · rintro H ⟨hd', s⟩
    exact hd H s hd'
end
end GL
set_option maxHeartbeats 4000000
/-! Own operators of own instances. -/
namespace PySem
namespace GO
open PySem.W PySem.Calls PyProof.Rows PySem.HandSPX Builtin
section
variable {prog : Program} {w : World} {A : Around} {E : Value → Shared → Prop} {hp : Heap} {g : Array GenState} {d : Drawn} {t : Nat} {os : OsState} {K : W.Frag} {x y C f : Addr} {ox oy : Obj} {od oe : Option Obj} {b : Value} {op : Operator} {Q : Value → Shared → Prop} {cd : ClassData} {rest : List Value}
def Held (p : Prop) : Prop := p
/-- a method of an own class, tried -/
theorem try_own {nm : Str} {Q : Option Value → Shared → Prop} (X : K.In hp) (I : InstAt hp x ox C od) (hf : findIn K (.ref C) nm = some (some (.ref f))) (tf : typeIn K (.ref f) = some (.type "function"))
    (h : Held (wpAny (model prog w) A (call (.ref f) [.ref x, b]) (W.CmpBack fun v => Q (some v)) E ⟨hp, g, d, t, os⟩)) : wpAny (model prog w) A (tryMethod (.ref x) nm b) Q E ⟨hp, g, d, t, os⟩ := by
  unfold tryMethod
  apply wpAny_bind
  refine special_fn (s := ⟨hp, g, d, t, os⟩) X I hf tf (wpAny_mono h (fun v s' z => ?_) fun _ _ z => z)
  cases v <;> first | exact wpAny_pure z | exact z.elim
/-- a + b, both of one class -/
theorem bin_same (X : K.In hp) (I : InstAt hp x ox C od) (J : InstAt hp y oy C oe) (hcd : clsIn K C = some cd) (hm : cd.mro = .ref C :: rest) (hf : findIn K (.ref C) (dunder op.info.2) = some (some (.ref f))) (tf : typeIn K (.ref f) = some (.type "function"))
    (h : wpAny (model prog w) A (call (.ref f) [.ref x, .ref y]) (W.CmpBack Q) E ⟨hp, g, d, t, os⟩) : wpAny (model prog w) A (binaryOp op (.ref x) (.ref y)) Q E ⟨hp, g, d, t, os⟩ := by
  have left := fills_K (M := model prog w) (nm := op.info.2) X hcd hm hf
  unfold binaryOp
  generalize op.info = z at *
  obtain ⟨sym, nm⟩ := z
  apply wpAny_holding
  unfold binaryOp1
  apply wpAny_bind
  apply wpAny_bind
  apply I.type.at
  apply wpAny_bind
  apply J.type.at
  apply wpAny_bind
  apply left.at
  dsimp only
  rw [if_pos (beq_self_eq_true _)]
  repeat (first | with_reducible refine try_own X I hf tf ?_ | wp_step)
  refine wpAny_mono h (fun v s' z => ?_) fun _ _ z => z
  cases v <;> first | exact wpAny_pure (wpAny_pure z) | exact z.elim
/-- a + n, n a whole number -/
theorem bin_int {n : Int} {k : Tok} {ia ir : String} (X : K.In hp) (I : InstAt hp x ox C od) (hcd : clsIn K C = some cd) (hm : cd.mro = .ref C :: rest) (hf : findIn K (.ref C) (dunder op.info.2) = some (some (.ref f))) (hr : findIn K (.ref C) (dunderR op.info.2) = some none) (tf : typeIn K (.ref f) = some (.type "function"))
    (fa : findIn K (.type "int") (dunder op.info.2) = some (some (.builtin ia))) (fr : findIn K (.type "int") (dunderR op.info.2) = some (some (.builtin ir))) (sq : isSeqSlot (some (.builtin ia)) = false) (sub : subIn K (.type "int") (.ref C) = some false)
    (h : wpAny (model prog w) A (call (.ref f) [.ref x, .int n k]) (W.CmpBack Q) E ⟨hp, g, d, t, os⟩) : wpAny (model prog w) A (binaryOp op (.ref x) (.int n k)) Q E ⟨hp, g, d, t, os⟩ := by
  have left := fills_K (M := model prog w) (nm := op.info.2) X hcd hm hf
  have l1 := looks_findIn (M := model prog w) X hf
  have l2 := looks_findIn (M := model prog w) X hr
  have l3 := looks_findIn (M := model prog w) X fa
  have l4 := looks_findIn (M := model prog w) X fr
  have l5 := looks_subIn (M := model prog w) X sub
  unfold binaryOp
  generalize op.info = z at *
  obtain ⟨sym, nm⟩ := z
  apply wpAny_holding
  unfold binaryOp1 numberSlotInPython fillsNumberSlot
  apply wpAny_bind
  apply wpAny_bind
  apply I.type.at
  apply wpAny_bind
  apply wpAny_pure
  apply wpAny_bind
  apply left.at
  repeat (first | with_reducible refine try_own X I hf tf ?_ | with_reducible refine l1.at ?_ | with_reducible refine l2.at ?_ | with_reducible refine l3.at ?_ | with_reducible refine l4.at ?_ | with_reducible refine l5.at ?_ | wp_step)
  refine wpAny_mono h (fun v s' z => ?_) fun _ _ z => z
  cases v <;> first | exact wpAny_pure (wpAny_pure z) | exact z.elim
/-- -a -/
theorem neg_own (X : K.In hp) (I : InstAt hp x ox C od) (hf : findIn K (.ref C) "__neg__" = some (some (.ref f))) (tf : typeIn K (.ref f) = some (.type "function"))
    (h : wpAny (model prog w) A (call (.ref f) [.ref x]) Q E ⟨hp, g, d, t, os⟩) : wpAny (model prog w) A (unaryOp .USub (.ref x)) Q E ⟨hp, g, d, t, os⟩ := by
  unfold unaryOp
  apply wpAny_holding
  dsimp only
  rw [if_neg (by decide)]
  apply wpAny_bind
  exact special_fn (s := ⟨hp, g, d, t, os⟩) X I hf tf (wpAny_mono h (fun v s' z => wpAny_pure z) fun _ _ z => z)
end
end GO
end PySem
set_option maxHeartbeats 4000000
namespace PySem
namespace GO
open PySem.W PySem.Calls PyProof.Rows PySem.HandSPX Builtin
section
variable {prog : Program} {w : World} {A : Around} {E : Value → Shared → Prop} {hp : Heap} {g : Array GenState} {d : Drawn} {t : Nat} {os : OsState} {K : W.Frag} {x y C f : Addr} {ox oy : Obj} {od oe : Option Obj} {b tb : Value} {Q : Value → Shared → Prop}
theorem ifb {fv : Value} {nm : Str} {Q : Option Value → Shared → Prop} (X : K.In hp) (I : InstAt hp x ox C od) (hf : findIn K (.ref C) nm = some (some fv)) (hb : Looks (model prog w) hp (bindSpecial fv (.ref x)) (fv, [.ref x]))
    (h : wpAny (model prog w) A (call fv [.ref x, b]) (fun v => Q (some v)) E ⟨hp, g, d, t, os⟩) : wpAny (model prog w) A (callSpecialIfBound? (.ref x) nm [b]) Q E ⟨hp, g, d, t, os⟩ := by
  have l1 := looks_findIn (M := model prog w) X hf
  unfold callSpecialIfBound? bindSpecialIfBound? specialOf
  apply wpAny_holding
  apply wpAny_bind
  apply wpAny_bind
  apply wpAny_bind
  apply I.type.at
  apply l1.at
  dsimp only
  apply wpAny_bind
  refine wpAny_askSetting ?_
  have go : ∀ {E' : Value → Shared → Prop}, wpAny (model prog w) A (do let z ← bindSpecial fv (.ref x); pure (some z)) (fun a s' => wpAny (model prog w) A (match a with
        | some (g, first) => do
          let z ← call g (first ++ [b])
          pure (some z)
        | x => pure none) Q E s') E' ⟨hp, g, d, t, os⟩ := by
    intro E'
    apply wpAny_bind
    apply hb.at
    apply wpAny_pure
    dsimp only [List.cons_append, List.nil_append]
    apply wpAny_bind
    exact wpAny_mono h (fun v s' z => wpAny_pure z) fun _ _ z => z
  split
  · exact go
  · exact wpAny_tryCatch go
theorem try_c {fv : Value} {nm : Str} {Q : Option Value → Shared → Prop} (X : K.In hp) (I : InstAt hp x ox C od) (hf : findIn K (.ref C) nm = some (some fv)) (hb : Looks (model prog w) hp (bindSpecial fv (.ref x)) (fv, [.ref x]))
    (h : wpAny (model prog w) A (call fv [.ref x, b]) (W.CmpBack fun v => Q (some v)) E ⟨hp, g, d, t, os⟩) : wpAny (model prog w) A (tryCompare (.ref x) nm b) Q E ⟨hp, g, d, t, os⟩ := by
  unfold tryCompare
  apply wpAny_bind
  refine ifb X I hf hb (wpAny_mono h (fun v s' z => ?_) fun _ _ z => z)
  cases v <;> first | exact wpAny_pure z | exact z.elim
/-- a == b, a != b, by the class's method of this name -/
theorem cmp_any {op : CmpOp} {fv : Value} (hop : op = .Eq ∨ op = .NotEq) (hu : A.units < cLine) (X : K.In hp) (I : InstAt hp x ox C od) (hb : Looks (model prog w) hp (typeOf b) tb) (nf : notFirst K C tb = true) (he : findIn K (.ref C) (cmpInfo op).2.1 = some (some fv))
    (hbi : Looks (model prog w) hp (bindSpecial fv (.ref x)) (fv, [.ref x]))
    (h : wpAny (model prog w) A (call fv [.ref x, b]) (W.CmpBack Q) E ⟨hp, g, d, t, os⟩) : wpAny (model prog w) A (richCompare op (.ref x) b) Q E ⟨hp, g, d, t, os⟩ := by
  have no : oneThing? op (.ref x) b = none := by rcases hop with rfl | rfl <;> rfl
  unfold richCompare
  apply wpAny_holding
  apply wpAny_bind
  refine wpAny_cRoomFor hu ?_
  rw [no]
  dsimp only
  generalize hi : cmpInfo op = z at *
  obtain ⟨sym, nf', nr⟩ := z
  apply wpAny_bind
  apply I.type.at
  apply wpAny_bind
  apply hb.at
  unfold notFirst at nf
  have go : wpAny (model prog w) A (tryCompare (.ref x) nf' b) (fun o s' => o.isSome = true ∧ ∀ v, o = some v → Q v s') E ⟨hp, g, d, t, os⟩ := by
    refine try_c X I he hbi (wpAny_mono h (fun v s' z => ?_) fun _ _ z => z)
    cases v <;> first | exact ⟨rfl, fun _ q => by cases q; exact z⟩ | exact z.elim
  have fin : ∀ {k : Option Value → Sem Value}, (∀ v, k (some v) = pure v) → wpAny (model prog w) A (tryCompare (.ref x) nf' b >>= k) Q E ⟨hp, g, d, t, os⟩ := by
    intro k hk
    apply wpAny_bind
    refine wpAny_mono go (fun o s' z => ?_) fun _ _ z => z
    obtain ⟨q, z⟩ := z
    cases o with
    | none => cases q
    | some v =>
      rw [hk]
      exact wpAny_pure (z v rfl)
  split
  · rename_i ne
    simp only [Bool.or_eq_true, beq_iff_eq] at nf
    rcases nf with rfl | q
    · exact absurd ne (by simp)
    · apply wpAny_bind
      apply (looks_subIn X q).at
      dsimp only [Bool.false_eq_true, if_false]
      exact fin fun v => rfl
  · apply wpAny_bind
    apply wpAny_pure
    exact fin fun v => rfl
/-- the entry of object.__ne__ -/
theorem ne_entry (hu : A.units < cLine) (X : K.In hp) (I : InstAt hp x ox C od) (he : findIn K (.ref C) "__eq__" = some (some (.ref f))) (tf : typeIn K (.ref f) = some (.type "function")) {Q : PySem.Fin → Shared → Prop}
    (h : wpAny (model prog w) A (call (.ref f) [.ref x, b]) (fun v s' => ∃ k, v = .bool k ∧ Q (.done (.ret (.bool !k))) s') E ⟨hp, g, d, t, os⟩) :
    wpAny (model prog w) A (Builtin.«object.__ne__» { pos := [.ref x, b] }) Q E ⟨hp, g, d, t, os⟩ := by
  unfold Builtin.«object.__ne__»
  apply wpAny_bind
  have e : slotArgs "__ne__" 1 { pos := [.ref x, b] } = pure (.ref x, [b]) := rfl
  rw [e]
  apply wpAny_pure
  dsimp only
  apply wpAny_bind
  refine wpAny_cRoomFor hu ?_
  apply wpAny_bind
  refine ifb X I he (bind_fn X _ tf) (wpAny_mono h (fun v s' z => ?_) fun _ _ z => z)
  obtain ⟨k, rfl, q⟩ := z
  dsimp only
  apply wpAny_bind
  refine wpAny_truthy_bool ?_
  exact wpAny_pure q
/-- a != b, by an own __eq__ -/
theorem ne_own (hu : A.units + 1 < cLine) (X : K.In hp) (I : InstAt hp x ox C od) (hb : Looks (model prog w) hp (typeOf b) tb) (nf : notFirst K C tb = true) (hn : findIn K (.ref C) "__ne__" = some (some (.builtin "object.__ne__"))) (he : findIn K (.ref C) "__eq__" = some (some (.ref f)))
    (tf : typeIn K (.ref f) = some (.type "function")) (ob : mroIn K C (.type "object") = some true)
    (h : wpAny (model prog w) A.in1 (call (.ref f) [.ref x, b]) (fun v s' => ∃ k, v = .bool k ∧ Q (.bool !k) s') E ⟨hp, g, d, t, os⟩) : wpAny (model prog w) A (richCompare .NotEq (.ref x) b) Q E ⟨hp, g, d, t, os⟩ := by
  refine cmp_any (.inr rfl) (by omega) X I hb nf hn ?_ ?_
  · rw [PySem.F.slot_object_ne.bind]
    exact .now
  apply wpAny_call
  refine codeAny_call_builtin (by decide +kernel) (by rfl) ?_
  refine check_slot (s := ⟨hp, g, d, t, os⟩) (owner := "object") (n := "__ne__") (by decide +kernel) (by decide +kernel) ?_ (by rfl) ?_
  · exact I.type.andThen (W.looks_mroIn X ob)
  · exact ne_entry hu X I he tf h
/-- x in a, by an own __contains__ -/
theorem in_own (X : K.In hp) (I : InstAt hp x ox C od) (hf : findIn K (.ref C) "__contains__" = some (some (.ref f))) (tf : typeIn K (.ref f) = some (.type "function")) {Q : Bool → Shared → Prop}
    (h : wpAny (model prog w) A (call (.ref f) [.ref x, b]) (fun v s' => ∃ k, v = .bool k ∧ Q k s') E ⟨hp, g, d, t, os⟩) : wpAny (model prog w) A (contains (.ref x) b) Q E ⟨hp, g, d, t, os⟩ := by
  have l1 := looks_findIn (M := model prog w) X hf
  have l2 := bind_fn (M := model prog w) X (.ref x) tf
  unfold contains
  apply wpAny_holding
  have e : stdlibNamesSay? (.ref x) b = none := rfl
  rw [e]
  dsimp only
  unfold callSpecialUnlessNone? specialOf
  apply wpAny_bind
  apply wpAny_bind
  apply I.type.at
  apply l1.at
  dsimp only
  rw [if_neg (by simp)]
  apply wpAny_bind
  apply wpAny_bind
  apply wpAny_bind
  apply I.type.at
  apply l1.at
  dsimp only
  apply wpAny_holding
  apply wpAny_bind
  apply l2.at
  dsimp only [List.cons_append, List.nil_append]
  rw [if_neg (by simp)]
  apply wpAny_bind
  refine wpAny_mono h (fun v s' z => ?_) fun _ _ z => z
  obtain ⟨k, rfl, q⟩ := z
  apply wpAny_pure
  exact wpAny_truthy_bool q
end
end GO
end PySem
set_option maxHeartbeats 4000000
/-! Own operators of own instances, as rules. -/
namespace GL
open PySem PySem.Spec PyProof.Rows L2
theorem isFn_ty {K : PySem.W.Frag} {f : Addr} (h : PySem.W.isFn K (.ref f) = true) : PySem.W.typeIn K (.ref f) = some (.type "function") := by
  unfold PySem.W.isFn at h
  exact beq_iff_eq.mp h
section
variable {X : Cx} {pins : List (Addr × Obj)} {σ : L2.St} {H : Hp} {s : Shared} {a C dx f : Addr} {fs : List (Str × V)} {x y : V} {u t v : Value} {Q : VK} {CX : CXT} {E : XK} {k : Nat} {sp : Sp}
theorem inst_of (I : Inv X pins σ H s) (e : H a = some (.ins C dx fs)) : ∃ ox od, PySem.W.InstAt s.heap a ox C od := by
  obtain ⟨mA, hO, _, hw, _, _⟩ := ins_get I.hok e
  obtain ⟨oD, _, _, hoD, _, _⟩ := hO.ns.count hw
  exact ⟨_, some oD, hO.obj, rfl, rfl, hoD⟩
theorem ty_look (I : Inv X pins σ H s) (rx : L2.RelV x u) (ty : TyX X.K H x t) : PySem.W.Looks (model X.prog X.w) s.heap (typeOf u) t := by
  obtain ⟨P, kx, p, _⟩ := kit_of I rx ty
  exact kx.ty _ _ I.kIn p
theorem notImpl (z : EP X pins σ Q v s) : PySem.W.CmpBack (EP X pins σ Q) v s := by
  have ne : v ≠ .notImplemented := by
    rintro rfl
    obtain ⟨r, H', _, rr, _⟩ := z
    cases r <;> first | exact nomatch rr | (obtain ⟨_, e⟩ := rr; exact nomatch e)
  cases v <;> first | exact z | exact absurd rfl ne
theorem Room.in1 {k : Nat} {A : Around} (r : Room (k + 1) A) : Room k A.in1 := by
  refine ⟨r.hd, ?_, ?_⟩
  · have := r.dp
    show A.depth + 3 * k + 5 < recursionLimit
    omega
  · have := r.un
    show A.units + 1 + 16 * k + 200 < cLine
    omega
theorem run_in1 {us : List Value} {vs : List V} (F : FnR X.prog X.w X.K X.mg X.base CX k f sp) (hr : Room (k + 1) X.A) (hx : Passes CX X E) (I : Inv X pins σ H s) (r : Vals vs us) (q : sp vs H Q E) :
    wpAny (model X.prog X.w) X.A.in1 (PySem.call (.ref f) us) (EP X pins σ Q) X.xe s := by
  apply wpAny_call
  refine codeAny_mono (F X.A.in1 X.stack s H us vs Q E (Room.in1 hr) { I.env0 with frames := I.env0.frames } r q) fun r' s' z => ?_
  match r', z with
  | .error er, z => exact hx pins σ H s er s' I z
  | .ok .next, z => exact False.elim z
  | .ok .brk, z => exact False.elim z
  | .ok .cont, z => exact False.elim z
  | .ok (.ret u), z => exact I.after z
end

/-! ### a + b -/
structure OwnBin (K : PySem.W.Frag) (C : Addr) (op : Operator) (f : Addr) : Prop where
  m : Meth K C (dunder op.info.2) f
  r : PySem.W.findIn K (.ref C) (dunderR op.info.2) = some none
  c : ∃ cd rest, PySem.W.clsIn K C = some cd ∧ cd.mro = .ref C :: rest
  s : PySem.W.subIn K (.type "int") (.ref C) = some false
def rOwn (C : Addr) (sp : Sp) (E : XK) : R2 := fun x y H Q => ∃ a dx fs, x = .ref a ∧ H a = some (.ins C dx fs) ∧ ((∃ b dy gs, y = .ref b ∧ H b = some (.ins C dy gs)) ∨ ∃ n, y = .int n) ∧ sp [x, y] H Q E
theorem op_own {X : Cx} {CX : CXT} {E : XK} {k : Nat} {sp : Sp} {C f : Addr} {op : Operator} (hop : op = .Add ∨ op = .Sub ∨ op = .Mult) (B : OwnBin X.K C op f) (F : FnR X.prog X.w X.K X.mg X.base CX k f sp) (hr : Room k X.A) (hx : Passes CX X E) : OpR X (binaryOp op) (rOwn C sp E) := by
  intro pins s σ H x y v u Q I rx ry h
  obtain ⟨a, dx, fs, rfl, ea, hy, q⟩ := h
  cases (show v = Value.ref a from rx)
  obtain ⟨ox, od, J⟩ := inst_of I ea
  obtain ⟨cd, rest, hcd, hm⟩ := B.c
  have z : wpAny (model X.prog X.w) X.A (PySem.call (.ref f) [.ref a, u]) (PySem.W.CmpBack (EP X pins σ Q)) X.xe s := thn (wpAny_call (run_fnR F hr hx I (Paired.cons (a := V.ref a) (b := Value.ref a) rfl (.cons ry .nil)) q)) fun _ _ => notImpl
  rcases s with ⟨hp, g, d, tk, os⟩
  rcases hy with ⟨b, dy, gs, rfl, eb⟩ | ⟨n, rfl⟩
  · cases (show u = Value.ref b from ry)
    obtain ⟨oy, oe, J'⟩ := inst_of I eb
    exact PySem.GO.bin_same I.kIn J J' hcd hm B.m.at_ (isFn_ty B.m.fn) z
  · obtain ⟨tn, rfl⟩ := (show ∃ t, u = Value.int n t from ry)
    rcases hop with rfl | rfl | rfl
    · exact PySem.GO.bin_int (ia := "int.__add__") (ir := "int.__radd__") I.kIn J hcd hm B.m.at_ B.r (isFn_ty B.m.fn) (by show fastLookup "int" _ = _; decide +kernel) (by show fastLookup "int" _ = _; decide +kernel) (by decide +kernel) B.s z
    · exact PySem.GO.bin_int (ia := "int.__sub__") (ir := "int.__rsub__") I.kIn J hcd hm B.m.at_ B.r (isFn_ty B.m.fn) (by show fastLookup "int" _ = _; decide +kernel) (by show fastLookup "int" _ = _; decide +kernel) (by decide +kernel) B.s z
    · exact PySem.GO.bin_int (ia := "int.__mul__") (ir := "int.__rmul__") I.kIn J hcd hm B.m.at_ B.r (isFn_ty B.m.fn) (by show fastLookup "int" _ = _; decide +kernel) (by show fastLookup "int" _ = _; decide +kernel) (by decide +kernel) B.s z

/-! ### -a -/
theorem un_own {X : Cx} {CX : CXT} {E : XK} {k : Nat} {sp : Sp} {C f : Addr} (B : Meth X.K C "__neg__" f) (F : FnR X.prog X.w X.K X.mg X.base CX k f sp) (hr : Room k X.A) (hx : Passes CX X E) :
    UnR X (unaryOp .USub) (fun x H Q => ∃ a dx fs, x = .ref a ∧ H a = some (.ins C dx fs) ∧ sp [x] H Q E) := by
  intro pins s σ H x v Q I rx h
  obtain ⟨a, dx, fs, rfl, ea, q⟩ := h
  cases (show v = Value.ref a from rx)
  obtain ⟨ox, od, J⟩ := inst_of I ea
  have z := wpAny_call (run_fnR F hr hx I (Paired.cons (a := V.ref a) (b := Value.ref a) rfl .nil) q)
  rcases s with ⟨hp, g, d, tk, os⟩
  exact PySem.GO.neg_own I.kIn J B.at_ (isFn_ty B.fn) z

/-! ### a == b, a != b -/
structure OwnEq (K : PySem.W.Frag) (C f : Addr) : Prop where
  m : Meth K C "__eq__" f
  n : PySem.W.findIn K (.ref C) "__ne__" = some (some (.builtin "object.__ne__"))
  o : PySem.W.mroIn K C (.type "object") = some true
def rOwnE (K : PySem.W.Frag) (C : Addr) (sp : Sp) (E : XK) : R2 := fun x y H Q => ∃ a dx fs t, x = .ref a ∧ H a = some (.ins C dx fs) ∧ TyX K H y t ∧ PySem.W.notFirst K C t = true ∧ sp [x, y] H Q E
def rOwnN (K : PySem.W.Frag) (C : Addr) (sp : Sp) (E : XK) : R2 := fun x y H Q => ∃ a dx fs t, x = .ref a ∧ H a = some (.ins C dx fs) ∧ TyX K H y t ∧ PySem.W.notFirst K C t = true ∧ sp [x, y] H (fun v H' => ∃ k, v = .bl k ∧ Q (.bl !k) H') E
theorem op_eqO {X : Cx} {CX : CXT} {E : XK} {k : Nat} {sp : Sp} {C f : Addr} (B : OwnEq X.K C f) (F : FnR X.prog X.w X.K X.mg X.base CX k f sp) (hr : Room k X.A) (hx : Passes CX X E) : OpR X (compareOp .Eq) (rOwnE X.K C sp E) := by
  intro pins s σ H x y v u Q I rx ry h
  obtain ⟨a, dx, fs, t, rfl, ea, ty, nf, q⟩ := h
  cases (show v = Value.ref a from rx)
  obtain ⟨ox, od, J⟩ := inst_of I ea
  have z : wpAny (model X.prog X.w) X.A (PySem.call (.ref f) [.ref a, u]) (PySem.W.CmpBack (EP X pins σ Q)) X.xe s := thn (wpAny_call (run_fnR F hr hx I (Paired.cons (a := V.ref a) (b := Value.ref a) rfl (.cons ry .nil)) q)) fun _ _ => notImpl
  have hu : X.A.units < cLine := by have := hr.un; omega
  have lk := ty_look I ry ty
  rcases s with ⟨hp, g, d, tk, os⟩
  show wpAny _ _ (richCompare .Eq (.ref a) u) _ _ _
  have e : PySem.W.findIn X.K (.ref C) (cmpInfo .Eq).2.1 = some (some (.ref f)) := B.m.at_
  exact PySem.GO.cmp_any (op := .Eq) (.inl rfl) hu I.kIn J lk nf e (PySem.W.bind_fn I.kIn _ (isFn_ty B.m.fn)) z
theorem op_neO {X : Cx} {CX : CXT} {E : XK} {k : Nat} {sp : Sp} {C f : Addr} (B : OwnEq X.K C f) (F : FnR X.prog X.w X.K X.mg X.base CX k f sp) (hr : Room (k + 1) X.A) (hx : Passes CX X E) : OpR X (compareOp .NotEq) (rOwnN X.K C sp E) := by
  intro pins s σ H x y v u Q I rx ry h
  obtain ⟨a, dx, fs, t, rfl, ea, ty, nf, q⟩ := h
  cases (show v = Value.ref a from rx)
  obtain ⟨ox, od, J⟩ := inst_of I ea
  have hu : X.A.units + 1 < cLine := by have := hr.un; omega
  have lk := ty_look I ry ty
  have z := run_in1 F hr hx I (Paired.cons (a := V.ref a) (b := Value.ref a) rfl (.cons ry .nil)) q
  rcases s with ⟨hp, g, d, tk, os⟩
  refine PySem.GO.ne_own hu I.kIn J lk nf B.n B.m.at_ (isFn_ty B.m.fn) B.o (thn z ?_)
  rintro v s' ⟨r, H', I', rr, k, rfl, q'⟩
  exact ⟨k, rr, V.bl !k, H', I', rfl, q'⟩

/-! ### x in a -/
theorem op_inO {X : Cx} {CX : CXT} {E : XK} {k : Nat} {sp : Sp} {C f : Addr} (B : Meth X.K C "__contains__" f) (F : FnR X.prog X.w X.K X.mg X.base CX k f sp) (hr : Room k X.A) (hx : Passes CX X E) :
    OpR X (compareOp .In) (fun x y H Q => ∃ a dx fs, y = .ref a ∧ H a = some (.ins C dx fs) ∧ sp [y, x] H (fun v H' => ∃ k, v = .bl k ∧ Q v H') E) := by
  intro pins s σ H x y v u Q I rx ry h
  obtain ⟨a, dx, fs, rfl, ea, q⟩ := h
  cases (show u = Value.ref a from ry)
  obtain ⟨ox, od, J⟩ := inst_of I ea
  have z := wpAny_call (run_fnR F hr hx I (Paired.cons (a := V.ref a) (b := Value.ref a) rfl (.cons rx .nil)) q)
  rcases s with ⟨hp, g, d, tk, os⟩
  show wpAny _ _ (do let b ← contains (.ref a) v; return Value.bool b) _ _ _
  apply wpAny_bind
  refine PySem.GO.in_own I.kIn J B.at_ (isFn_ty B.fn) (thn z ?_)
  rintro w s' ⟨r, H', I', rr, k, rfl, q'⟩
  exact ⟨k, rr, wpAny_pure ⟨V.bl k, H', I', rfl, q'⟩⟩
end GL
set_option maxHeartbeats 1000000
/-! Calls with keywords alone: of defs, methods, classmethods. -/
namespace GL
open PySem PySem.Spec PyProof.Rows L2
theorem callWith_MK0 {A : Around} {E : Value → Shared → Prop} {s : Shared} {K : PySem.W.Frag} {M : Model} {env : Env} {pos : Pos} {first : List Value} {Q : Value → Shared → Prop} {q g : Addr} {self : Value} {kws : List Keyword} (hf : PySem.W.fnIn K g = true)
    (hall : ((backToKw pos (keywordEach kws env)).all fun x => x.fst.isSome) = true)
    (h : wpAny M A (evalAll (List.map (fun x => x.snd) (backToKw pos (keywordEach kws env))))
            (fun ks s₂ => PySem.W.MethP K q g self s₂.heap ∧ wpAny M A (call (.ref q) (first ++ []) ((List.filterMap (fun x => x.fst) (backToKw pos (keywordEach kws env))).zip ks)) Q E s₂) E s)
    (hplain : (((backTo pos (starEach [] env)).any fun x => x.fst) || (backToKw pos (keywordEach kws env)).any fun x => x.fst.isNone) = false) :
    wpAny M A (callWith pos (.ref q) first (backTo pos (starEach [] env)) (backToKw pos (keywordEach kws env))) Q E s :=
  PySem.W.callWith_of hplain (PySem.W.keeps_M hf) (evalArgs_kw2_nil hall h)
section
variable {X : Cx} {CX : CXT} {E : XK} {k n : Nat} {sp : Sp} {C f g : Addr} {fd : FuncData} {ps ks : List Str} {gU : List Value → List Value → List Value} {gV : List V → List V → List V} {kws : List Keyword} {tk : TA} {ta : TE} {o : Expr} {m x : Str} {p pos apos : Pos} {pl : Sem Bool}
theorem code_kw {pins : List (Addr × Obj)} {σ : L2.St} {H : Hp} {s : Shared} {Q : VK} {us ws : List Value} {vs zs : List V} (F : FnOk X.prog X.w X.K X.mg X.base CX k f fd ps sp) (hr : Room k X.A) (hb : KBn X.K fd ps n ks gU gV) (hx : Passes CX X E) (I : Inv X pins σ H s)
    (r : Vals vs us) (rz : Vals zs ws) (l1 : vs.length = n) (l2 : zs.length = ks.length) (q : sp (gV vs zs) H Q E) :
    codeAny (model X.prog X.w) X.A (.call (.ref f) ⟨us, ks.zip ws⟩) (fun r s' => match r with | .ok (.ret v) => EP X pins σ Q v s' | .ok _ => False | .error e => X.xe e s') s := by
  refine codeAny_mono (F.run X.A X.stack s H ⟨us, ks.zip ws⟩ (gU us ws) (gV vs zs) Q E hr I.env0 (hb.to s us ws I.kIn (by rw [← Paired.length r]; exact l1) (by rw [← Paired.length rz]; exact l2)) (hb.rel r rz) q) fun r' s' z => ?_
  match r', z with
  | .error er, z => exact hx pins σ H s er s' I z
  | .ok .next, z => exact False.elim z
  | .ok .brk, z => exact False.elim z
  | .ok .cont, z => exact False.elim z
  | .ok (.ret u), z => exact I.after z
/-- f(k = v, ..) -/
theorem pe_callN0 (F : FnOk X.prog X.w X.K X.mg X.base CX k f fd ps sp) (hr : Room k X.A) (hg : Gl X x) (hm : X.mg x = some (.ref f)) (hk : PySem.W.keepIn X.K (.ref f) = true) (hb : KBn X.K fd ps 0 ks gU gV) (hx : Passes CX X E) (hkw : PK X kws tk)
    (hall : (backToKw pos (keywordEach kws X.env)).all (·.1.isSome) = true := by rfl) (hks : (backToKw pos (keywordEach kws X.env)).filterMap (·.1) = ks := by rfl) (hdb : (x == ("__debug__" : Str)) = false := by decide)
    (hpl : ((backTo pos (starEach [] X.env)).any (·.1) || (backToKw pos (keywordEach kws X.env)).any (·.1.isNone)) = false := by rfl) :
    PE X (.Call (.Name x p) [] kws pos) (fun σ H Q => tk σ H fun zs H1 => zs.length = ks.length ∧ sp (gV [] zs) H1 Q E) := by
  constructor
  intro pins s σ H Q I h
  apply wpAny_Call_Name_kw
  refine ld_glob I hg hm ?_ hdb
  refine PySem.W.callWith_KW0 (h₀ := X.base) I.ok.mod.kin hk hall ?_ hpl
  refine thn (hkw.run pos pins s σ H _ I h) ?_
  rintro ws s2 ⟨zs, H2, I2, rz, l2, q⟩
  refine ⟨I2.kIn, ?_⟩
  rw [hks]
  exact wpAny_call (code_kw F hr hb hx I2 .nil rz rfl l2 q)
/-- o.m(k = v, ..) -/
theorem pe_methN0 (he : PE X o ta) (c : Cls X.K C) (hm : Meth X.K C m f) (F : FnOk X.prog X.w X.K X.mg X.base CX k f fd ps sp) (hr : Room k X.A) (hb : KBn X.K fd ps 1 ks gU gV) (hx : Passes CX X E) (hkw : PK X kws tk)
    (hall : (backToKw pos (keywordEach kws X.env)).all (·.1.isSome) = true := by rfl) (hks : (backToKw pos (keywordEach kws X.env)).filterMap (·.1) = ks := by rfl)
    (hpl : ((backTo pos (starEach [] X.env)).any (·.1) || (backToKw pos (keywordEach kws X.env)).any (·.1.isNone)) = false := by rfl)
    (ht : eval (.Call (.Attribute o m apos) [] kws pos) X.env = (do let ov ← eval o X.env; standAt apos.atName; let (f, first) ← holding [ov] (getMethod ov m pl); callWith pos f first (backTo pos (starEach [] X.env)) (backToKw pos (keywordEach kws X.env))) := by rfl) :
    PE X (.Call (.Attribute o m apos) [] kws pos) (fun σ H Q => ta σ H fun x H1 => ∃ a dx fs, x = .ref a ∧ H1 a = some (.ins C dx fs) ∧ fs.lookup m = none ∧ tk σ H1 fun zs H2 => zs.length = ks.length ∧ sp (gV [x] zs) H2 Q E) := by
  constructor
  intro pins s σ H Q I h
  refine PySem.W.methodCall_KW (thn (he.run pins s σ H _ I h) ?_) ht
  rintro u s1 ⟨x, H1, I1, rx, a, dx, fs, rfl, ea, l, q⟩
  cases (show u = Value.ref a from rx)
  refine getmeth_ok I1 ea c hm l ?_
  refine PySem.W.callWith_KW0 (h₀ := X.base) I.ok.mod.kin hm.kp hall ?_ hpl
  refine thn (hkw.run pos pins s1 σ H1 _ I1 q) ?_
  rintro ws s2 ⟨zs, H2, I2, rz, l2, q⟩
  refine ⟨I2.kIn, ?_⟩
  rw [hks]
  exact wpAny_call (code_kw F hr hb hx I2 (Paired.cons (a := V.ref a) (b := Value.ref a) rfl .nil) rz rfl l2 q)
/-- C.m(k = v, ..), m a classmethod -/
theorem pe_cmethN0 {mc : Value} {pp : Addr} (he : PE X o ta) (r : ClX.CRead X.K C mc) (c : ClX.CMet X.K C mc m pp f) (F : FnOk X.prog X.w X.K X.mg X.base CX k f fd ps sp) (hr : Room k X.A) (hb : KBn X.K fd ps 1 ks gU gV) (hx : Passes CX X E) (hkw : PK X kws tk)
    (hall : (backToKw pos (keywordEach kws X.env)).all (·.1.isSome) = true := by rfl) (hks : (backToKw pos (keywordEach kws X.env)).filterMap (·.1) = ks := by rfl)
    (hpl : ((backTo pos (starEach [] X.env)).any (·.1) || (backToKw pos (keywordEach kws X.env)).any (·.1.isNone)) = false := by rfl)
    (ht : eval (.Call (.Attribute o m apos) [] kws pos) X.env = (do let ov ← eval o X.env; standAt apos.atName; let (f, first) ← holding [ov] (getMethod ov m pl); callWith pos f first (backTo pos (starEach [] X.env)) (backToKw pos (keywordEach kws X.env))) := by rfl) :
    PE X (.Call (.Attribute o m apos) [] kws pos) (fun σ H Q => ta σ H fun x H1 => x = .ref C ∧ tk σ H1 fun zs H2 => zs.length = ks.length ∧ sp (gV [x] zs) H2 Q E) := by
  constructor
  intro pins s σ H Q I h
  refine PySem.W.methodCall_KW (thn (he.run pins s σ H _ I h) ?_) ht
  rintro u s1 ⟨x, H1, I1, rx, rfl, q⟩
  cases (show u = Value.ref C from rx)
  refine ClX.getmethcm_ok I1 r c fun s2 I2 => ?_
  refine callWith_MK0 (K := X.K) (g := f) (self := .ref C) c.fi hall ?_ hpl
  refine thn (hkw.run pos _ s2 σ H1 _ I2 q) ?_
  rintro ws s3 ⟨zs, H3, I3, rz, l2, q⟩
  refine ⟨⟨ClX.pin_at I3, I3.kIn⟩, ?_⟩
  rw [hks]
  have z := wpAny_call (PySem.W.method_call (pos := []) (ClX.pin_at I3) (code_kw F hr hb hx I3 (Paired.cons (a := V.ref C) (b := Value.ref C) rfl .nil) rz rfl l2 q))
  exact thn z fun _ _ y => ClX.unpinE y
end
end GL
set_option maxHeartbeats 4000000
/-! The hook with defs at any place: classmethods, properties. -/
namespace GL
open PySem PySem.Spec PyProof.Rows L2
structure DefX where
  ad : PySem.W.Frag → Addr
  d : He.DefD
def fnX (K : PySem.W.Frag) (x : DefX) : He.FnW := match K.lookup (x.ad K) with
  | some ⟨_, _, .func fd, _⟩ => some (fd.name, fd.qualname, fd.params, fd.body, fd.scope, fd.globals, fd.closure, fd.builtins)
  | _ => none
def okX (K : PySem.W.Frag) (x : DefX) : Bool := PySem.W.keepIn K (.ref (x.ad K)) && match K.lookup (x.ad K) with
  | some ⟨_, _, .func fd, _⟩ => PySem.W.codeIn K fd.code x.d.qual && (He.dflB K fd.defaults (He.DefD.dvs K x.d) && He.kwdB K fd.kwdefaults (He.DefD.kws K x.d))
  | _ => false
theorem funX {K : PySem.W.Frag} {x : DefX} (e : fnX K x = x.d.val) (o : okX K x = true) : ∃ fd, FunD K x.d.name x.d.qual x.d.params x.d.body x.d.scope (He.DefD.dvs K x.d) (He.DefD.kws K x.d) (x.ad K) fd := by
  obtain ⟨kp, o⟩ := He.ba o
  unfold fnX at e
  cases q : K.lookup (x.ad K) with
  | none =>
    rw [q] at o
    cases o
  | some ob =>
    obtain ⟨oc, od, dt, osl⟩ := ob
    rw [q] at e o
    cases dt with
    | func fd =>
      obtain ⟨n1, n2, n3, n4, n5, n6, n7, n8, n9, n10, n11, n12, n13, n14, n15⟩ := fd
      have e2 : some (n1, n2, n3, n4, n5, n6, n7, n15) = some (x.d.name, x.d.qual, x.d.params, FuncBody.stmts x.d.body, x.d.scope, mainGlobals, [], builtinsNs) := e
      simp only [Option.some.injEq, Prod.mk.injEq] at e2
      obtain ⟨rfl, rfl, rfl, rfl, rfl, rfl, rfl, rfl⟩ := e2
      obtain ⟨c1, c2⟩ := He.ba o
      obtain ⟨c2, c3⟩ := He.ba c2
      exact ⟨_, ⟨oc, od, n8, n9, n10, n11, n12, n13, n14, osl, rfl, q, c1, He.dflB_ok c2, He.kwdB_ok c3⟩, kp⟩
    | _ => cases o
def SaysX (fx : List DefX) (K : PySem.W.Frag) : Prop := fx.map (fnX K) = fx.map (fun x => x.d.val) ∧ fx.all (okX K) = true
theorem SaysX.def_ {fx : List DefX} {K : PySem.W.Frag} (c : SaysX fx K) (i : Nat) {x : DefX} (h : fx[i]? = some x := by rfl) :
    ∃ fd, FunD K x.d.name x.d.qual x.d.params x.d.body x.d.scope (He.DefD.dvs K x.d) (He.DefD.kws K x.d) (x.ad K) fd := by
  refine funX ?_ (List.all_eq_true.mp c.2 x (List.mem_of_getElem? h))
  have e : (fx.map (fnX K))[i]? = (fx.map (fun x => x.d.val))[i]? := by rw [c.1]
  rw [List.getElem?_map, List.getElem?_map, h] at e
  exact Option.some.inj e
abbrev AlZ : Type := He.AlD × (List He.FnW × Bool)
def obsZ (n : Nat) (fa : List He.Fa) (fn : List He.DefD) (fx : List DefX) (ex : PySem.W.Frag → Bool) (g : Addr → Option Obj) : AlZ := (He.obsD fa fn (kOf n g), (fx.map (fnX (kOf n g)), fx.all (okX (kOf n g)) && ex (kOf n g)))
def hookZ (n : Nat) (fa : List He.Fa) (fn : List He.DefD) (fx : List DefX) (ex : PySem.W.Frag → Bool) : PySem.W.Hook where
  α := AlZ
  obs := fun s => obsZ n fa fn fx ex s.heap.get?
  val := fun _ => (He.valD fn, (fx.map (fun x : DefX => x.d.val), true))
  says := fun _ h => ∃ K : PySem.W.Frag, K.In h ∧ He.SaysD fa fn K ∧ SaysX fx K ∧ ex K = true
  of := fun _ s e => ⟨kOf n s.heap.get?, He.frG_in, congrArg (fun z : AlZ => z.1) e, ⟨congrArg (fun z : AlZ => z.2.1) e, (He.ba (show (fx.all (okX (kOf n s.heap.get?)) && ex (kOf n s.heap.get?)) = true from congrArg (fun z : AlZ => z.2.2) e)).1⟩, (He.ba (show (fx.all (okX (kOf n s.heap.get?)) && ex (kOf n s.heap.get?)) = true from congrArg (fun z : AlZ => z.2.2) e)).2⟩
  keeps := fun _ _ _ ⟨K, hK, c⟩ k => ⟨K, PySem.W.Frag.In.keeps hK k, c⟩
theorem obsZ_eq {n : Nat} {fa : List He.Fa} {fn : List He.DefD} {fx : List DefX} {ex : PySem.W.Frag → Bool} {g : Addr → Option Obj} {s : Shared} (h : ∀ a, g a = s.heap.get? a) : obsZ n fa fn fx ex g = (hookZ n fa fn fx ex).obs s := by
  have e : g = s.heap.get? := funext h
  rw [e]
  rfl
/-! ### where a classmethod's, a property's def stands -/
def wrapAt (K : PySem.W.Frag) (C : Addr) (m : Str) (T : String) : Addr := match PySem.W.recIn K (He.ma K C m) T with
  | some (.ref g :: _) => g
  | _ => 0
def propB (K : PySem.W.Frag) (C : Addr) (f : Str) : Bool := He.eqO (PySem.W.findIn K (.ref C) f) (some (some (.ref (He.ma K C f)))) && (He.eqO (PySem.W.specialIn K (.ref (He.ma K C f)) "__get__") (some (some (.builtin "property.__get__"))) &&
  (decide (PySem.W.takesIn K (.ref (He.ma K C f)) = some true) && (match PySem.W.recIn K (He.ma K C f) "property" with | some (.ref _ :: _) => true | _ => false)))
theorem propB_ok {K : PySem.W.Frag} {C : Addr} {f : Str} (h : propB K C f = true) : PropOf K C f (He.ma K C f) (wrapAt K C f "property") := by
  obtain ⟨h1, h⟩ := He.ba h
  obtain ⟨h2, h⟩ := He.ba h
  obtain ⟨h3, h4⟩ := He.ba h
  refine ⟨He.eqO_ok h1, He.eqO_ok h2, of_decide_eq_true h3, ?_⟩
  unfold wrapAt
  split at h4
  · rename_i g rest e
    exact ⟨rest, by rw [e]⟩
  · cases h4
def cmetB (K : PySem.W.Frag) (C : Addr) (mc : Value) (m : Str) : Bool := (match PySem.W.findCls K (.ref C) mc m with | some (.get (.builtin i) (.ref p) .none (.ref C')) => i == "classmethod.__get__" && (p == He.ma K C m && C' == C) | _ => false) &&
  ((match PySem.W.recIn K (He.ma K C m) "classmethod" with | some (.ref _ :: _) => true | _ => false) && PySem.W.fnIn K (wrapAt K C m "classmethod"))
theorem cmetB_ok {K : PySem.W.Frag} {C : Addr} {mc : Value} {m : Str} (h : cmetB K C mc m = true) : ClX.CMet K C mc m (He.ma K C m) (wrapAt K C m "classmethod") := by
  obtain ⟨h1, h⟩ := He.ba h
  obtain ⟨h2, h3⟩ := He.ba h
  refine ⟨?_, ?_, h3⟩
  · split at h1
    · rename_i i p C' e
      simp only [Bool.and_eq_true, beq_iff_eq] at h1
      obtain ⟨rfl, rfl, rfl⟩ := h1
      exact e
    · cases h1
  · unfold wrapAt
    split at h2
    · rename_i g rest e
      exact ⟨rest, by rw [e]⟩
    · cases h2
end GL
set_option maxHeartbeats 4000000
namespace K18
open PySem PySem.Spec PyProof.Rows L2 GL
def tp (i : Nat) : Stmt := PySem.Challenge.pw_fademodes_k11_cuts_and_ranges.main.body.getD i (.Pass ⟨0, 0, 0, 0⟩)
abbrev sIsInt : Stmt := tp 11
abbrev sIsNum : Stmt := tp 13
abbrev sRatio (j : Nat) : Stmt := inClass (tp 14) j
abbrev sRatiosOf : Stmt := tp 15
end K18
set_option maxHeartbeats 4000000
/-! The hook of GH with the interpreter's own statics among what K holds; keywords of defs without defaults. -/
namespace GL
open PySem PySem.Spec PyProof.Rows L2
/-- what an object names that a law's facts ask: a namespace's values, a def's code and defaults, a class's namespace, a record's fields -/
def refsT (o : Obj) : List Addr := match o.data with
  | .dict es _ => es.toList.flatMap fun e => He.refV e.val
  | .func fd => He.refV fd.code ++ He.refV fd.defaults
  | .cls cd => [cd.ns]
  | .fields vs => vs.toList.flatMap He.refV
  | _ => []
def nextT (g : Addr → Option Obj) (as : List Addr) : List Addr := as.flatMap fun a => match g a with
  | some o => refsT o
  | none => []
def lvls (g : Addr → Option Obj) : Nat → List Addr → List Addr
  | 0, as => as
  | n + 1, as => as ++ lvls g n (nextT g as)
def kOfT (n : Nat) (g : Addr → Option Obj) : PySem.W.Frag := He.frG g (cStatics :: sysModules :: lvls g n [mainGlobals])
def obsT (n : Nat) (fa : List He.Fa) (fn : List He.DefD) (fx : List DefX) (ex : PySem.W.Frag → Bool) (g : Addr → Option Obj) : AlZ := (He.obsD fa fn (kOfT n g), (fx.map (fnX (kOfT n g)), fx.all (okX (kOfT n g)) && ex (kOfT n g)))
def hookT (n : Nat) (fa : List He.Fa) (fn : List He.DefD) (fx : List DefX) (ex : PySem.W.Frag → Bool) : PySem.W.Hook where
  α := AlZ
  obs := fun s => obsT n fa fn fx ex s.heap.get?
  val := fun _ => (He.valD fn, (fx.map (fun x : DefX => x.d.val), true))
  says := fun _ h => ∃ K : PySem.W.Frag, K.In h ∧ He.SaysD fa fn K ∧ SaysX fx K ∧ ex K = true
  of := fun _ s e => ⟨kOfT n s.heap.get?, He.frG_in, congrArg (fun z : AlZ => z.1) e, ⟨congrArg (fun z : AlZ => z.2.1) e, (He.ba (show (fx.all (okX (kOfT n s.heap.get?)) && ex (kOfT n s.heap.get?)) = true from congrArg (fun z : AlZ => z.2.2) e)).1⟩, (He.ba (show (fx.all (okX (kOfT n s.heap.get?)) && ex (kOfT n s.heap.get?)) = true from congrArg (fun z : AlZ => z.2.2) e)).2⟩
  keeps := fun _ _ _ ⟨K, hK, c⟩ k => ⟨K, PySem.W.Frag.In.keeps hK k, c⟩
theorem obsT_eq {n : Nat} {fa : List He.Fa} {fn : List He.DefD} {fx : List DefX} {ex : PySem.W.Frag → Bool} {g : Addr → Option Obj} {s : Shared} (h : ∀ a, g a = s.heap.get? a) : obsT n fa fn fx ex g = (hookT n fa fn fx ex).obs s := by
  have e : g = s.heap.get? := funext h
  rw [e]
  rfl
/-- every parameter but the first n is named -/
theorem kbn {K : PySem.W.Frag} {x qual : Str} {params : Arguments} {body : List Stmt} {scope : Scope} {kws : List (Str × V)} {f : Addr} {fd : FuncData} {ps : List Str} (F : FunD K x qual params body scope [] kws f fd) (n : Nat) (ks : List Str) (gU : List Value → List Value → List Value) (gV : List V → List V → List V)
    (hrel : ∀ {vs zs : List V} {us ws : List Value}, Vals vs us → Vals zs ws → Vals (gV vs zs) (gU us ws))
    (h : ∀ (kV doc pm : Value) (an : Option Addr) (cdv ct : Value) (us ws : List Value), us.length = n → ws.length = ks.length → bindArgs (PySem.W.fnOf x qual params body scope .none kV doc pm an cdv ct) ⟨us, ks.zip ws⟩ = pure (ps.zip (gU us ws))) : KBn K fd ps n ks gU gV := by
  obtain ⟨oc, od, dV, kV, doc, pm, an, cdv, ct, osl, rfl, lk, hcd, hD, hK⟩ := F.ex
  rcases hD with ⟨_, rfl⟩ | ⟨e, _⟩
  · exact ⟨fun s us ws _ l1 l2 => .of_eq (h kV doc pm an cdv ct us ws l1 l2), fun r z => hrel r z⟩
  · exact absurd rfl e
theorem Vals.rev : ∀ {vs : List V} {us : List Value}, Vals vs us → Vals vs.reverse us.reverse
  | _, _, .nil => .nil
  | _, _, .cons a b => by
    rw [List.reverse_cons, List.reverse_cons]
    exact (Vals.rev b).append (.cons a .nil)
end GL
namespace GL
open PySem PySem.Spec PyProof.Rows L2
section
open HandSHeadRun
/-- the head's run, put together from what it shows of its parts: each is computed by itself -/
theorem run_parts {r : PySem.W.OpenRow} {q : Program} {n : Nat} {fa : List He.Fa} {fn : List He.DefD} {fx : List DefX} {ex : PySem.W.Frag → Bool} {M : Nat} {loose : List PySem.Str} {w : World}
    (h1 : (wholeF (fun p => stepQ (denQ tabQ) p w) fenceQ M r.prog).map (fun x => (looksF r.prog x.1.heap x.2.abs, seenQ q loose (importedModules r.prog.main.body) (fun s => PySem.W.xlAt q [] s && PySem.W.recOk r.toRowW.records s) x.2.abs)) = some (true, PySem.W.openGood q loose))
    (h2 : (wholeF (fun p => stepQ (denQ tabQ) p w) fenceQ M r.prog).map (fun x => He.obsD fa fn (kOfT n (getT x.2))) = some (He.valD fn))
    (h3 : (wholeF (fun p => stepQ (denQ tabQ) p w) fenceQ M r.prog).map (fun x => (fx.map (fnX (kOfT n (getT x.2))), fx.all (okX (kOfT n (getT x.2))) && ex (kOfT n (getT x.2)))) = some (fx.map (fun x : DefX => x.d.val), true)) :
    RunEqI r q (hookT n fa fn fx ex) (fun s => obsT n fa fn fx ex (getT s)) M loose w := by
  unfold RunEqI
  cases e : wholeF (fun p => stepQ (denQ tabQ) p w) fenceQ M r.prog with
  | none =>
    rw [e] at h1
    cases h1
  | some x =>
    rw [e] at h1 h2 h3
    have a1 := Option.some.inj h1
    have a2 := Option.some.inj h2
    have a3 := Option.some.inj h3
    obtain ⟨b1, b2⟩ := Prod.mk.inj a1
    refine congrArg some (Prod.ext b1 (Prod.ext b2 ?_))
    exact Prod.ext a2 a3
end
end GL
set_option maxHeartbeats 4000000
/-! Errors of the program raised and caught: raise C(e, ..) of a class of errors with an __init__ that stores its parameters; several clauses with names; a field of what was caught. -/
namespace GL
open PySem PySem.Spec PyProof.Rows L2
/-! ### raise C(e, ..) -/
theorem XC.isType {K : PySem.W.Frag} {C : Addr} {b : EB} (T : XC K C b) : PySem.W.typeIn K (.ref C) = some (.type "type") := by
  obtain ⟨nm, q, N, bs, bm, sn, sub, ab, col, dd, k0, k1, k2, k3, k5, hC, _⟩ := T.cls
  show Option.map (fun x => x.cls) (List.lookup C K) = _
  rw [hC]
  rfl
/-- C(e, ..) made, to be raised: fl its fields -/
def tRaise (C : Addr) (fl : List Str) (t : TA) : L2.St → Hp → XK → Prop := fun σ H Q => t σ H fun vs H1 => vs.length = fl.length ∧ vs.length ≤ 1000 ∧ ∀ d H2, Same H1 H2 → H1 d = none → H2 d = some (.xd (fl.zip vs).reverse) → Q (.ref C) (some d) H2
section
variable {X : Cx} {x : Str} {C fI : Addr} {b : EB} {k : Nat} {fd : FuncData} {ps : List Str} {fl : List Str} {e : Expr} {es : List Expr} {ta : TA} {p pos : Pos}
theorem pmk_x (T : XC X.K C b) (iC : PySem.W.findIn X.K (.ref C) "__init__" = some (some (.ref fI))) (tI : PySem.W.typeIn X.K (.ref fI) = some (.type "function")) (F1 : FnOk X.prog X.w X.K X.mg X.base CX0 k fI fd ps (spInit C fl))
    (hr : Room (k + 1) X.A) (hb : Binds X.K fd ps []) (hg : Gl X x) (hm : X.mg x = some (.ref C)) (ha : PA X (e :: es) ta) (hdb : (x == ("__debug__" : Str)) = false := by decide)
    (he : starEach (e :: es) X.env = (false, eval e X.env) :: starEach es X.env := by rfl) (hpl : (backTo pos (starEach es X.env)).any (·.1) = false := by rfl) : PMk X (.Call (.Name x p) (e :: es) [] pos) (tRaise C fl ta) := by
  intro pins s σ H Q I h
  apply wpAny_Call_Name_kw
  refine ld_glob I hg hm ?_ hdb
  refine PySem.W.callWith_K (h₀ := X.base) I.ok.mod.kin T.keep (thn (ha.run pos pins s σ H _ I h) ?_) he hpl
  rintro us s1 ⟨vs, H1, I1, r1, len, small, q⟩
  refine ⟨I1.kIn, ?_⟩
  obtain ⟨nm, qn, N, bs, bm, sn, sub, ab, col, dd, k0, k1, k2, k3, k5, hC, hbm⟩ := T.cls
  obtain ⟨i, FB⟩ := b.base
  rcases s1 with ⟨hp, g, dr, tk, os⟩
  have le1 : hp.objs.size ≤ hp.objs.size + 1 := Nat.le_succ _
  have free : H1 (hp.objs.size + 1) = none := I1.hok.fresh le1
  have kk : ∀ b o, hp.get? b = some o → ((hp.push (PySem.W.kdv_tup us)).push (PySem.HandSPX.excO C hp.objs.size)).get? b = some o := fun b o z => Heap.get?_push_of_some _ (Heap.get?_push_of_some _ z)
  have at_ : ((hp.push (PySem.W.kdv_tup us)).push (PySem.HandSPX.excO C hp.objs.size)).get? (hp.objs.size + 1) = some (PySem.HandSPX.excO C hp.objs.size) := by heap_get
  have J : Inv X pins σ (upd H1 (hp.objs.size + 1) (exo (hp.objs.size + 1) C none)) ⟨(hp.push (PySem.W.kdv_tup us)).push (PySem.HandSPX.excO C hp.objs.size), g, dr, tk, os⟩ := I1.laid (t' := tk) kk le1 (exo_ok at_)
  have rr : Vals (V.ref (hp.objs.size + 1) :: vs) (Value.ref (hp.objs.size + 1) :: us) := .cons rfl r1
  have le2 : us.length ≤ sizeLine := by
    rw [← Paired.length r1, sizeLine_eq]
    omega
  have hq : spInit C fl (.ref (hp.objs.size + 1) :: vs) (upd H1 (hp.objs.size + 1) (exo (hp.objs.size + 1) C none)) (fun v H2 => v = .non ∧ ∃ d, H2 (hp.objs.size + 1) = some (exo (hp.objs.size + 1) C (some d)) ∧ H2 d = some (exd d (fl.zip vs).reverse) ∧ H1 d = none ∧
      Q (.ref C) (some d) (upd (del H2 (hp.objs.size + 1)) d (.xd (fl.zip vs).reverse))) E0 := by
    refine ⟨_, vs, rfl, len, upd_same, fun dx H' n1 n2 o1 o2 kp => ⟨rfl, dx, o1, o2, ?_, ?_⟩⟩
    · rw [upd_ne n2] at n1
      exact n1
    · rw [upd_ne n2] at n1
      refine q dx _ (fun c o z => ?_) n1 upd_same
      have c1 : c ≠ hp.objs.size + 1 := ne_of_none z free
      have c2 : c ≠ dx := ne_of_none z n1
      rw [upd_ne c2, del_ne c1]
      exact kp c o (by rw [upd_ne c1]; exact z) c1
  have hlen := F1.len _ _ _ _ hq
  show wpAny _ _ (PySem.call (.ref C) us) _ _ _
  refine wpAny_call (PySem.GX.made FB (fun Y => PySem.W.excTail_contains Y bm hbm) (I1.kIn _ _ hC) (PySem.W.looks_findIn I1.kIn iC) (fun self => PySem.W.bind_fn I1.kIn self tI) le2 ?_)
  have bnd : BindsTo ⟨(hp.push (PySem.W.kdv_tup us)).push (PySem.HandSPX.excO C hp.objs.size), g, dr, tk, os⟩ fd ⟨Value.ref (hp.objs.size + 1) :: us, []⟩ (ps.zip (Value.ref (hp.objs.size + 1) :: us)) := by
    have z := hb _ (Value.ref (hp.objs.size + 1) :: us) J.kIn (by rw [List.append_nil, ← hlen, List.length_cons, List.length_cons, Paired.length r1])
    simpa using z
  refine codeAny_mono (F1.run _ X.stack _ _ ⟨Value.ref (hp.objs.size + 1) :: us, []⟩ (Value.ref (hp.objs.size + 1) :: us) _ _ E0 (hr.make C us []) (J.env0.make C us []) bnd rr hq) ?_
  intro r' s' z
  match r', z with
  | .error er, z => exact False.elim z
  | .ok .next, z => exact False.elim z
  | .ok .brk, z => exact False.elim z
  | .ok .cont, z => exact False.elim z
  | .ok (.ret u), z =>
    obtain ⟨v, H2, os2, bare2, un2, hok2, rv, rfl, d, o1, o2, n1, w⟩ := z
    obtain ⟨h2, g2, d2, t2, os'⟩ := s'
    exact ⟨rv, mk_end (raises_own T.exB T.isType) I1 le1 kk un2 hok2 os2 bare2 o1 o2 n1 w⟩
end

/-! ### several clauses, each with a name -/
/-- the ends of a clause's suite: its name (slot i) is gone -/
def gone (D : Ends) (i : Nat) : Ends := { nx := fun z H' => D.nx (z.set i none) H', rt := D.rt, bk := fun z H' => D.bk (z.set i none) H', ct := fun z H' => D.ct (z.set i none) H' }
abbrev Clause : Type := Value × Nat × (Addr → Value → Option Addr → TS)
/-- what the clauses wish of an exception of the body -/
def wNamed (K : PySem.W.Frag) (W0 : WX) (D : Ends) : List Clause → WX
  | [] => W0
  | (c, i, ts) :: rest => fun cls d z H => ∃ hit, PySem.W.exmOne K cls c = some hit ∧ (hit = true → ∀ a, H a = none → ts a cls d (gone D i) (z.set i (some (.ref a))) H) ∧ (hit = false → wNamed K W0 D rest cls d z H)
inductive Clauses (X : Cx) : List ExceptHandler → List Clause → Prop
  | nil : Clauses X [] []
  | cons {x n : Str} {c : Value} {i : Nat} {ts : Addr → Value → Option Addr → TS} {b₀ : Stmt} {suite : List Stmt} {q1 q2 : Pos} {hds : List ExceptHandler} {rest : List Clause} (slot : X.N[i]? = some n) (own : X.env.kindOf n = some .local) (hc : Names X x c)
      (run : ∀ (a : Addr) (oe : Obj) (cls : Value) (d : Option Addr) (pn : List (Addr × Obj)), Zc cls d oe → (∃ vs, oe.data = .fields vs) → PSs (X.suite a ((a, oe) :: pn)) (b₀ :: suite) (ts a cls d)) (more : Clauses X hds rest) :
      Clauses X (.ExceptHandler (some (.Name x q1)) (some n) (b₀ :: suite) q2 :: hds) ((c, i, ts) :: rest)
section
variable {X : Cx} {pins : List (Addr × Obj)} {z z' : L2.St} {H H' : Hp} {s s' sI : Shared} {D : Ends}
/-- behind a suite: the name is taken away -/
theorem suite_end {n : Str} {i : Nat} {a : Addr} {oe : Obj} {pos : Pos} {Q : Shared → Prop} (ok : X.Ok) (hN : X.N.Nodup) (slot : X.N[i]? = some n) (own : X.env.kindOf n = some .local)
    (S : Inv (X.suite a ((a, oe) :: (X.pn ++ pins))) [] z H s) (h : ∀ s2, Inv X pins (z.set i none) H s2 → Q s2) :
    wpAny (model X.prog X.w) X.A (do bindName X.env n .none; unbindBehindTheSuite X.env n pos) (fun _ s2 => Q s2) X.xe s := gone_ok (S.unsuite ok) hN slot own h
theorem in_clauses {W0 : WX} {B : Heap} {a : Addr} {cls : Value} {d : Option Addr} (tk : Takes X W0) (hs : X.stack = X.env :: X.outer) (hf : X.env.frame = some X.env.locals) (hN : X.N.Nodup) (I : Inv X pins z H sI)
    (nb : ∀ b o, sI.heap.get? b = some o → b ∉ frs X.stack → B.get? b = some o) (up : sI.heap.UpToSlots s.heap) (fl : HandSPX.FlyingZ B (X.env :: X.outer) a (Zc cls d) s.heap) (na : H a = none) (os : s.os = sI.os) (ag : AllBare s.gens)
    {hds : List ExceptHandler} {l : List Clause} (hk : Clauses X hds l) (w : wNamed X.K W0 D l cls d z H) : wpAny (model X.prog X.w) X.A (handleBy (.ref a) X.env hds) (SP X pins D) X.xe s := by
  have ok := I.ok
  have landed : Inv X pins z H s := I.landed nb fl.1 up os ag
  have apart : ∀ {h : Heap}, HandSPX.FlyingZ B (X.env :: X.outer) a (Zc cls d) h → a ≠ X.env.locals ∧ a ∉ X.fs := by
    intro h f
    obtain ⟨oe, vs, e1, _, e3⟩ := f.there
    have nm : a ∉ frs (X.env :: X.outer) := fun m => by
      obtain ⟨_, o', e', no⟩ := f.2.2.1.mem m
      rw [e1] at e'
      cases e'
      exact no _ e3
    refine ⟨fun q => nm (List.mem_filterMap.mpr ⟨X.env, List.mem_cons_self, by rw [hf, q]⟩), fun m => ?_⟩
    obtain ⟨e, he, q⟩ := List.mem_filterMap.mp m
    exact nm (List.mem_filterMap.mpr ⟨e, List.mem_cons_of_mem _ he, q⟩)
  obtain ⟨nL, nF⟩ := apart fl
  induction hk with
  | nil =>
    refine wpAny_handleBy_nil ?_
    obtain ⟨_, _, _, oe, vs, T, oT, ts', e0, _, e2, e3, _⟩ := id fl
    unfold PySem.passOn
    refine wpAny_bind (wpAny_field e0 e2 e3 ?_)
    have notNone : ¬ ((Value.ref T == Value.none) = true) := by simp
    rw [if_neg notNone]
    have last : wpAny (model X.prog X.w) X.A (setFlight (.ref a) X.env.frame) (fun _ s4 => wpAny (model X.prog X.w) X.A (throw (.ref a) : Sem Flow) (SP X pins D) X.xe s4) X.xe s := by
      rw [hf]
      refine HandSPX.setFlight_upZ fl fun h4 held up4 => wpAny_throw (tk _ _ ⟨a, B, sI, pins, z, H, cls, d, rfl, I, nb, up.trans up4, .inr (.inr ?_), na, os, ag, w⟩)
      rw [hs]
      exact held
    first
      | exact wpAny_bind last
      | exact wpAny_bind (wpAny_pure (wpAny_bind last))
  | @cons x n c i ts b₀ suite q1 q2 hds rest slot own hc run more ih =>
    obtain ⟨hit, m, yes, no⟩ := w
    obtain ⟨oe, vs, e1, e2, e3⟩ := fl.there
    have S0 := landed.suite e1 e3 na nL nF
    refine wpAny_handleBy_cons (codeAny_handlers_test ?_) (fun q => nomatch q)
    have ty : PySem.W.Looks (model X.prog X.w) s.heap (typeOf (.ref a)) cls := fun A Q E s k q => wpAny_typeOf_ref (k _ _ e1) (by rw [e2.1]; exact q)
    have mt := PySem.W.exm_one (M := model X.prog X.w) landed.kIn ty m
    have named : ∀ {Q : Value → Shared → Prop} {E : Value → Shared → Prop}, Q c s → wpAny (model X.prog X.w) (X.A.mark (some (.ref a))) (eval (.Name x q1) X.env) Q E s := by
      intro Q E q
      rcases hc with ⟨g, db, hm | ⟨hm, hv, hnn⟩⟩
      · exact ld_glob (X := X.suite a ((a, oe) :: (X.pn ++ pins))) S0 g hm q db
      · exact ld_blt (X := X.suite a ((a, oe) :: (X.pn ++ pins))) S0 g hm hv q hnn db
    apply named
    refine mt.here ?_
    cases hit with
    | false => exact ih (no rfl)
    | true =>
      refine codeAny_handlers_suite_as ?_
      refine HandSPX.lands_againZ fl fun h4 fl4 up4 => ?_
      have J4 : Inv X pins z H { s with heap := h4 } := I.landed nb fl4.1 (up.trans up4) os ag
      obtain ⟨oe4, vs4, f1, f2, f3⟩ := fl4.there
      obtain ⟨mL, mF⟩ := apart fl4
      refine store_ok (X := X.suite a ((a, oe4) :: (X.pn ++ pins))) (v := .ref a) (J4.suite f1 f3 na mL mF) hN slot (.inl own) rfl (fun s5 S5 => ?_) (.inr own)
      refine wpAny_mono ((run a oe4 cls d (X.pn ++ pins) f2 ⟨_, f3⟩).run [] s5 _ H _ S5 (yes rfl a na)) ?_ fun _ _ q => False.elim q
      intro f s6 hsp
      match f, hsp with
      | .next, hsp =>
        obtain ⟨z6, H6, S6, w6⟩ := hsp
        exact suite_end ok hN slot own S6 fun s7 J7 => ⟨_, _, J7, w6⟩
      | .brk, hsp =>
        obtain ⟨z6, H6, S6, w6⟩ := hsp
        exact suite_end ok hN slot own S6 fun s7 J7 => ⟨_, _, J7, w6⟩
      | .cont, hsp =>
        obtain ⟨z6, H6, S6, w6⟩ := hsp
        exact suite_end ok hN slot own S6 fun s7 J7 => ⟨_, _, J7, w6⟩
      | .ret u, hsp =>
        obtain ⟨v6, z6, H6, S6, r6, w6⟩ := hsp
        exact suite_end ok hN slot own S6 fun s7 J7 => ⟨_, _, _, J7, r6, w6⟩
theorem ps_try_named {body : List Stmt} {h₀ : ExceptHandler} {hds : List ExceptHandler} {l : List Clause} {pos : Pos} {tb : WX → TS} {W0 : WX} (hs : X.stack = X.env :: X.outer) (hf : X.env.frame = some X.env.locals) (hN : X.N.Nodup) (tk : Takes X W0)
    (hb : ∀ (W : WX) (pn : List (Addr × Obj)) (xe : Value → Shared → Prop), Takes (X.tr pn xe) W → PSs (X.tr pn xe) body (tb W)) (hh : Clauses X (h₀ :: hds) l) :
    PS X (.Try body (h₀ :: hds) [] [] pos) (fun D z H => tb (wNamed X.K W0 D l) D z H) := by
  constructor
  intro pins s z H D I h
  have ok := I.ok
  have frames : X.A.frames = some (X.env :: X.outer) := by rw [ok.frames, hs]
  apply wpAny_Try_except
  refine wpAny_mono ((hb (wNamed X.K W0 D l) (X.pn ++ pins) _ ?_).run [] s z H D (I.toTry _) h) ?_ fun e s1 q => q
  · intro u s' xx
    obtain ⟨a, B, sI, pins', z', H', cls, d, rfl, J', nb, up, sky, na, os, ag, w⟩ := xx
    have sky' : Sky B (X.env :: X.outer) a (Zc cls d) X.env.locals s'.heap := by
      rw [← hs]
      exact sky
    show wpAny (model X.prog X.w) X.A (noteFrame (.ref a) X.env) _ _ _
    refine Sky.land Zc.steady frames hf sky' fun h3 fl3 up3 => ?_
    exact in_clauses (s := { s' with heap := h3 }) tk hs hf hN (J'.ofTry ok) nb (up.trans up3) fl3 na os ag hh w
  · intro f s1 hsp
    match f, hsp with
    | .next, hsp =>
      obtain ⟨z', H', J', q⟩ := hsp
      exact wpAny_execs_nil ⟨z', H', J'.ofTry ok, q⟩
    | .brk, hsp =>
      obtain ⟨z', H', J', q⟩ := hsp
      exact ⟨z', H', J'.ofTry ok, q⟩
    | .cont, hsp =>
      obtain ⟨z', H', J', q⟩ := hsp
      exact ⟨z', H', J'.ofTry ok, q⟩
    | .ret u, hsp =>
      obtain ⟨v, z', H', J', r, q⟩ := hsp
      exact ⟨v, z', H', J'.ofTry ok, r, q⟩
end
end GL
set_option maxHeartbeats 4000000
/-! What was caught: its fields, isinstance. -/
namespace GL
open PySem PySem.Spec PyProof.Rows L2
/-- the caught error's fields: d its dict -/
def Fields (H : Hp) (d : Option Addr) (fs : List (Str × V)) : Prop := (d = none ∧ fs = []) ∨ ∃ dx, d = some dx ∧ H dx = some (.xd fs)
section
variable {X : Cx} {a C : Addr} {oe : Obj} {pn : List (Addr × Obj)} {d : Option Addr} {b : EB} {e : Expr} {te : TE} {f : Str} {pos : Pos}
theorem caught_inst {pins : List (Addr × Obj)} {z : L2.St} {H : Hp} {s : Shared} {fs : List (Str × V)} (I : Inv (X.suite a ((a, oe) :: pn)) pins z H s) (hz : Zc (.ref C) d oe) (hf : ∃ vs, oe.data = .fields vs) (hd : Fields H d fs) :
    ∃ od, PySem.W.InstAt s.heap a oe C od ∧ ∀ f v, fs.lookup f = some v → ∃ u oD, od = some oD ∧ RelV v u ∧ PySem.W.lookIn f oD = some (some u) := by
  have there : s.heap.get? a = some oe := (I.pin (a, oe) (List.mem_append.mpr (.inl List.mem_cons_self))).1
  obtain ⟨vs, hv⟩ := hf
  obtain ⟨oc, od, dt, sl⟩ := oe
  obtain ⟨h1, h2⟩ := hz
  dsimp only at h1 h2 hv
  subst h1 h2 hv
  rcases hd with ⟨rfl, rfl⟩ | ⟨dx, rfl, hx⟩
  · exact ⟨none, ⟨there, rfl, rfl, trivial⟩, fun f v z => nomatch z⟩
  · obtain ⟨mA, hns, hr⟩ := I.hok dx _ hx
    obtain ⟨oD, hD, look⟩ := lookIn_ns hns
    refine ⟨some oD, ⟨there, rfl, rfl, hD⟩, fun f v z => ?_⟩
    obtain ⟨u, hu, ru⟩ := RelO.some_of (v := v) (o := mA f) (by rw [← z]; exact hr f)
    exact ⟨u, oD, rfl, ru, by rw [look, hu]⟩
/-- e.f, e what was caught -/
def tCaught (K : PySem.W.Frag) (C a : Addr) (cls : Value) (d : Option Addr) (te : TE) (f : Str) : TE := fun z H Q => te z H fun x H1 => x = .ref a ∧ cls = .ref C ∧ ∃ (fs : List (Str × V)) (v : V), PySem.W.findIn K (.ref C) f = some none ∧ Fields H1 d fs ∧ fs.lookup f = some v ∧ Q v H1
theorem pe_caught {cls : Value} (T : XC X.K C b) (hz : Zc cls d oe) (hf : ∃ vs, oe.data = .fields vs) (he : PE (X.suite a ((a, oe) :: pn)) e te) (hb : attributeBase e f X.env (eval e X.env) = eval e X.env := by rfl) : PE (X.suite a ((a, oe) :: pn)) (.Attribute e f pos) (tCaught X.K C a cls d te f) := by
  constructor
  intro pins s z H Q I h
  refine attr_of hb (thn (he.run pins s z H _ I h) ?_)
  rintro u s1 ⟨x, H1, I1, rx, rfl, rfl, fs, v, no, hd, l, q⟩
  cases (show u = Value.ref a from rx)
  obtain ⟨od, J, look⟩ := caught_inst I1 hz hf hd
  obtain ⟨u, oD, rfl, ru, hl⟩ := look f v l
  obtain ⟨cd, hcl, _, hdct⟩ := T.data
  have has : PySem.W.hasDictIn X.K C = true := by
    unfold PySem.W.hasDictIn
    rw [hcl]
    exact hdct
  exact HandSPX.exc_get I1.kIn J T.ga T.gg T.exB (PySem.W.findObj_own has no rfl hl) (handed_of ru) ⟨v, H1, I1.tok _, ru, q⟩
/-- isinstance(e, c) -/
def rCaughtIs (K : PySem.W.Frag) (C a : Addr) (cls : Value) (d : Option Addr) : List V → Hp → VK → Prop := fun xs H Q => ∃ (c : V) (cv : Value) (k : Bool) (fs : List (Str × V)), xs = [.ref a, c] ∧ cls = .ref C ∧ Fields H d fs ∧ ClsV c cv ∧ PySem.W.kitOne K (.ref C) cv = some k ∧ Q (.bl k) H
theorem call_caughtIs {cls : Value} (T : XC X.K C b) (hz : Zc cls d oe) (hf : ∃ vs, oe.data = .fields vs) (hn : PySem.W.specialIn X.K (.builtin "object.__class__") "__get__" = some (some (.builtin "getset_descriptor.__get__"))) (ht : PySem.W.takesIn X.K (.builtin "object.__class__") = some true) :
    CallR (X.suite a ((a, oe) :: pn)) (.builtin "isinstance") (rCaughtIs X.K C a cls d) := by
  intro pins s z H xs us Q I r h
  obtain ⟨c, cv, k, fs, rfl, rfl, hd, hc, e, q⟩ := h
  obtain ⟨u1, u2, rfl, r1, r2⟩ := vals2 r
  cases (show u1 = Value.ref a from r1)
  cases hc.eq r2
  obtain ⟨od, J, _⟩ := caught_inst I hz hf hd
  obtain ⟨cd, hcl, _, _⟩ := T.data
  exact PySem.W.kia_one (PySem.W.kitx_exc (by rw [hcl]; rfl) T.ga T.gg T.exB T.kl hn ht T.ob) I.kIn J e (fun z => nomatch z) fun tk => ⟨.bl k, H, I.tok tk, rfl, q⟩
end
end GL
set_option maxHeartbeats 4000000
/-! A lambda handed to a def that calls it within try, the clauses with names. -/
namespace GL
open PySem PySem.Spec PyProof.Rows L2
section
variable {X : Cx} {pins : List (Addr × Obj)} {z : L2.St} {H : Hp} {s : Shared}
abbrev lamObj (X : Cx) (params : Arguments) (body : Expr) (scope : Scope) (pm : Value) (c' : Addr) (ctv : Value) : Obj := PySem.W.kla_obj "<lambda>" (X.env.qual ++ "<lambda>") params body scope (cloFrom X.env.cells scope.names []) pm c' ctv
/-- a(), a the parameter of the def that got the lambda: what the lambda lets out meets the clauses with the slots as they are -/
theorem pe_actAt {CXg : CXT} {Eg : XK} {Ng : List Str} {qg : Str} {sg : Scope} {g f c' : Addr} {cdg pm ctv : Value} {params : Arguments} {body : Expr} {scope : Scope} {k i : Nat} {a : Str} {pn : List (Addr × Obj)} {xe : Value → Shared → Prop} {W : WX} {tb : XK → TE} {p1 p2 : Pos}
    (I : Inv X pins z H s) (L : LamX.LamS X.env.scope scope) (made : s.heap.get? f = some (lamObj X params body scope pm c' ctv)) (free : H f = none) (nofr : f ∉ frs X.stack)
    (bare : bindArgs (PySem.W.kla_fn "<lambda>" (X.env.qual ++ "<lambda>") params body scope (cloFrom X.env.cells scope.names []) pm (.ref c') ctv) ⟨[], []⟩ = pure [])
    (tk : Takes ((cxOf CXg X.prog X.w X.K X.mg X.base Ng qg sg g cdg X.A X.stack s H Eg).tr pn xe) W) (room : Room (k + 1) (X.A.deeper (envOfC qg sg s.heap.objs.size g cdg)))
    (inner : ∀ (A : Around) (outer : List Env) (s2 : Shared) (H2 : Hp) (E : XK), A.guards = X.A.guards → Room k (A.deeper (LamX.lamEnv X scope s2.heap.objs.size f c')) → PE (LamX.lamCx X A outer s2 H2 E scope f c') body (tb E))
    (at_ : Ng[i]? = some a) (hv : Vis sg a) (hd : (a == ("__debug__" : Str)) = false := by decide) (hcd : (a == ("__classdict__" : Str)) = false := by decide) :
    PE ((cxOf CXg X.prog X.w X.K X.mg X.base Ng qg sg g cdg X.A X.stack s H Eg).tr pn xe) (.Call (.Name a p1) [] [] p2)
      (fun y HZ Q => y[i]? = some (some (.ref f)) ∧ HZ c' = some (LamX.CodeO c' (X.env.qual ++ "<lambda>")) ∧ tb (fun cls d H' => W cls d y H') z HZ Q) := by
  constructor
  intro pinsZ sZ y HZ Q IZ ⟨slot, code, rd⟩
  have nm : PE ((cxOf CXg X.prog X.w X.K X.mg X.base Ng qg sg g cdg X.A X.stack s H Eg).tr pn xe) (.Name a p1) _ := pe_var (pos := p1) (i := i) at_ hv hd hcd
  apply wpAny_Call_Name_kw
  refine thn (nm.run pinsZ sZ y HZ (fun v H1 => v = .ref f ∧ H1 = HZ) IZ ⟨.ref f, slot, rfl, rfl⟩) ?_
  rintro u s1 ⟨v, H1, I1, r1, rfl, rfl⟩
  cases (show u = Value.ref f from r1)
  have there : s1.heap.get? f = some (lamObj X params body scope pm c' ctv) := I1.base.keep f _ made free nofr (fun q => nomatch (show f ∈ ([] : List Addr) from q))
  refine PySem.W.callWith_F0 ⟨_, _, _, _, there⟩ ?_
  have un : Un (frs X.stack) [] H H1 s.heap s1.heap := I1.base
  obtain ⟨⟨oc, vs, t, e1, e2, e3⟩, _, _⟩ := I1.hok c' _ code
  have run : codeAny (model X.prog X.w) (X.A.deeper (envOfC qg sg s.heap.objs.size g cdg)) (.call (.ref f) ⟨[], []⟩) (CR (L2.CX X.prog X.w) (envOfC qg sg s.heap.objs.size g cdg :: X.stack) X.prog X.w H1 s1 Q fun cls d H' => W cls d y H') s1 := by
    refine PySem.W.kla_callFunE room.depth there rfl L.co L.gen rfl ⟨c', oc, vs, t, rfl, e1, e2, e3⟩ ?_
    rw [bare]
    refine wpAny_pure (wpAny_newFunctionEnv (fun n hn => (L.own n hn).2) (fun n hn => absurd hn (by simp)) (fun h₁ names but => ⟨I1.nolimit.fresh _ but, ?_⟩) L.kind)
    have kp : ∀ b o, s1.heap.get? b = some o → h₁.get? b = some o := fun b o q => but.extBut b o (Nat.ne_of_lt (Heap.lt_size q)) (Heap.get?_push_of_some _ q)
    have J : Inv (LamX.lamCx X (X.A.deeper (envOfC qg sg s.heap.objs.size g cdg)) (envOfC qg sg s.heap.objs.size g cdg :: X.stack) s1 H1 (fun cls d H' => W cls d y H') scope f c') [] z H1 { s1 with heap := h₁, toks := s1.toks + ([] : List (Str × Value)).length } :=
      LamX.lam_start2 I L I1.env0 room.hd un names kp
    refine PySem.W.kla_codeExpr (wpAny_mono ((inner (X.A.deeper (envOfC qg sg s.heap.objs.size g cdg)) _ s1 H1 _ rfl (room.deeper _)).run [] _ _ H1 Q J rd) ?_ fun e s' q => q)
    rintro v s' ⟨w', H', J', rv, q⟩
    exact ⟨w', H', J'.os, J'.bare, J'.base, J'.hok, rv, q⟩
  have out := passAt tk y
  refine wpAny_call (codeAny_mono run ?_)
  intro r s' q
  match r, q with
  | .error er, q => exact out pinsZ H1 s1 er s' I1 q
  | .ok (.ret u), q => exact I1.after q
  | .ok .next, q => exact False.elim q
  | .ok .brk, q => exact False.elim q
  | .ok .cont, q => exact False.elim q
end

/-- the def that calls what it got (a, its one parameter): TT what it makes of the lambda's reading -/
def Gives (X : Cx) (Ng : List Str) (x : Str) (sg : Scope) (g : Addr) (cdg : Value) (bg : List Stmt) (a q : Str) (k : Nat) (TT : (XK → Hp → VK → Prop) → Hp → VK → Prop) : Prop :=
  ∀ (f c' : Addr) (s : Shared) (H : Hp) (Q : VK) (tl : XK → Hp → VK → Prop), Room k (X.A.deeper (envOfC x sg s.heap.objs.size g cdg)) →
    (∀ (W : WX) (pn : List (Addr × Obj)) (xe : Value → Shared → Prop) (p1 p2 : Pos), Takes ((cxOf CX0 X.prog X.w X.K X.mg X.base Ng x sg g cdg X.A X.stack s H E0).tr pn xe) W →
      PE ((cxOf CX0 X.prog X.w X.K X.mg X.base Ng x sg g cdg X.A X.stack s H E0).tr pn xe) (.Call (.Name a p1) [] [] p2) (fun y HZ Q => y[0]? = some (some (.ref f)) ∧ HZ c' = some (LamX.CodeO c' q) ∧ tl (fun cls d H' => W cls d y H') HZ Q)) →
    H c' = some (LamX.CodeO c' q) → TT tl H Q → ∃ t, PSs (cxOf CX0 X.prog X.w X.K X.mg X.base Ng x sg g cdg X.A X.stack s H E0).nox bg t ∧ t { nx := fun _ H' => Q .non H', rt := Q } (L2.start Ng [.ref f]) H
section
variable {X : Cx}
/-- x(lambda: body) -/
theorem pe_told {T : List (Addr × Str)} {TT : (XK → Hp → VK → Prop) → Hp → VK → Prop} {x a : Str} {g c P : Addr} {k : Nat} {pg : Arguments} {bg : List Stmt} {sg : Scope} {dV kV doc pm cdv ct oc : Value} {an od : Option Addr} {osl : Array (Option Value)} {Ng : List Str}
    {params : Arguments} {body : Expr} {scope : Scope} {t : XK → TE} {p lpos pos : Pos} (hg : Gl X x) (hm : X.mg x = some (.ref g)) (hk : PySem.W.keepIn X.K (.ref g) = true)
    (lk : X.K.lookup g = some ⟨oc, od, .func (PySem.W.fnOf x x pg bg sg dV kV doc pm an cdv ct), osl⟩) (code : PySem.W.codeIn X.K cdv x = true) (hb : Binds X.K (PySem.W.fnOf x x pg bg sg dV kV doc pm an cdv ct) [a] []) (Sg : FnScope Ng [a] sg) (a0 : Ng[0]? = some a) (va : Vis sg a)
    (gives : Gives X Ng x sg g cdv bg a (X.env.qual ++ "<lambda>") (k + 1) TT) (TB : LamX.TabB X.base X.mg c P) (own : X.env.code = .ref c) (mT : (P, X.env.qual ++ "<lambda>") ∈ T) (one : ∀ p ∈ T, p.1 = P → p.2 = X.env.qual ++ "<lambda>")
    (hr : Room (k + 2) X.A) (L : LamX.LamS X.env.scope scope) (nodef : defaultsOf params X.env = ([], []))
    (bare : ∀ (q : Str) (cl : List (Str × Addr)) (pm cv ctv : Value), bindArgs (PySem.W.kla_fn "<lambda>" q params body scope cl pm cv ctv) ⟨[], []⟩ = pure [])
    (inner : ∀ (A : Around) (outer : List Env) (s : Shared) (H : Hp) (E : XK) (f c' : Addr), A.guards = X.A.guards → Room k (A.deeper (LamX.lamEnv X scope s.heap.objs.size f c')) → PE (LamX.lamCx X A outer s H E scope f c') body (t E))
    (hdb : (x == ("__debug__" : Str)) = false := by decide) (hd : (a == ("__debug__" : Str)) = false := by decide) (hcd : (a == ("__classdict__" : Str)) = false := by decide) :
    PE X (.Call (.Name x p) [.Lambda params body scope lpos] [] pos) (LamX.tLam T TT t) := by
  constructor
  intro pins s z H Q I ⟨tabs, h⟩
  apply wpAny_Call_Name_kw
  refine ld_glob I hg hm ?_ hdb
  refine PySem.W.callWith_K (h₀ := X.base) I.ok.mod.kin hk ?_ (by rfl) (by rfl)
  refine Calls.spliced_cons (LamX.lam_make2 I TB own mT one tabs nodef (L.has I.ok) ?_)
  intro f c' pm' ctv H1 s' I1 ext tabs1 made free nofr hco
  refine Calls.spliced_nil ⟨I1.kIn, ?_⟩
  have run : codeAny (model X.prog X.w) X.A (.call (.ref g) ⟨[.ref f], []⟩) (CR CX0 X.stack X.prog X.w H1 s' Q E0) s' := by
    refine LamX.run_ofS (N := Ng) (ps := [a]) (us := [.ref f]) (vs := [.ref f]) lk code Sg hr I1.env0 (hb s' [.ref f] I1.kIn rfl) (.cons rfl .nil) rfl fun room => ?_
    obtain ⟨t', ok, rd⟩ := gives f c' s' H1 Q (fun E H' Q' => t E z H' Q') room (fun W pn xe p1 p2 tk => pe_actAt (i := 0) I1 L made free nofr (bare _ _ _ _ _) tk room (fun A outer s2 H2 E hA hr2 => inner A outer s2 H2 E f c' hA hr2) a0 va hd hcd) hco (h H1 ext tabs1)
    exact ⟨t', ok.nox, rd⟩
  refine wpAny_call (codeAny_mono run ?_)
  intro r s2 q
  match r, q with
  | .error er, q => exact False.elim q
  | .ok (.ret u), q => exact I1.after q
  | .ok .next, q => exact False.elim q
  | .ok .brk, q => exact False.elim q
  | .ok .cont, q => exact False.elim q
end
end GL
set_option maxHeartbeats 8000000
/-! How lists of data are shown: bounds. -/
namespace GL
open PySem PySem.Spec PyProof.Rows L2
theorem textFrom_le : ∀ (ts : List Str) (k : Nat) (acc : Str), (textFrom k acc ts).length ≤ acc.length + piled ts
  | [], k, acc => by
    show acc.length ≤ _
    omega
  | t :: r, k, acc => by
    have ih := textFrom_le r (k + 1) (acc ++ (if k > 0 then ", " else "" : String) ++ t)
    have e : (acc ++ (if k > 0 then ", " else "" : String) ++ t).length ≤ acc.length + 2 + t.length := by
      rw [strLen_append, strLen_append]
      split
      · show acc.length + 2 + t.length ≤ _
        omega
      · show acc.length + 0 + t.length ≤ _
        omega
    rw [piled_cons]
    show (textFrom (k + 1) _ r).length ≤ _
    omega
theorem listText_le (ts : List Str) : (listText ts).length ≤ piled ts + 2 := by
  unfold listText
  rw [strLen_append]
  have h := textFrom_le ts 0 "["
  have e1 : ("[" : Str).length = 1 := rfl
  have e2 : ("]" : Str).length = 1 := rfl
  omega
/-- how a list of data is shown: bounds -/
theorem shown_list {ds : List PyData} {n m : Nat} (h : ∀ d ∈ ds, d.showable = true ∧ d.depth ≤ n ∧ d.shown.length ≤ m) : (PyData.list ds).showable = true ∧ (PyData.list ds).depth ≤ n + 1 ∧ (PyData.list ds).shown.length ≤ ds.length * (m + 2) + 2 := by
  have a : PyData.showableAll ds = true ∧ PyData.depthAll ds ≤ n ∧ piled (PyData.shownAll ds) ≤ ds.length * (m + 2) := by
    induction ds with
    | nil => exact ⟨rfl, Nat.zero_le _, Nat.zero_le _⟩
    | cons d ds ih =>
      obtain ⟨h1, h2, h3⟩ := h d List.mem_cons_self
      obtain ⟨g1, g2, g3⟩ := ih fun e he => h e (List.mem_cons_of_mem _ he)
      refine ⟨?_, ?_, ?_⟩
      · simp [PyData.showableAll, h1, g1]
      · simp only [PyData.depthAll]
        omega
      · simp only [PyData.shownAll]
        rw [piled_cons, List.length_cons, Nat.add_mul]
        omega
  refine ⟨by simp [PyData.showable, a.1], ?_, ?_⟩
  · simp only [PyData.depth]
    omega
  · simp only [PyData.shown]
    have := listText_le (PyData.shownAll ds)
    omega
theorem shown_int {i : Int} (h : i.natAbs.log2 < 1920) : (PyData.int i).showable = true ∧ (PyData.int i).depth ≤ 1 ∧ (PyData.int i).shown.length ≤ 1921 := by
  refine ⟨by simp [PyData.showable, h], by simp [PyData.depth], ?_⟩
  simp only [PyData.shown]
  rw [PySem.ofString_length]
  exact int_text_length_le (by decide) h
theorem shown_two {i j : Int} (hi : i.natAbs.log2 < 1920) (hj : j.natAbs.log2 < 1920) : (PyData.list [.int i, .int j]).showable = true ∧ (PyData.list [.int i, .int j]).depth ≤ 40 ∧ (PyData.list [.int i, .int j]).shown.length ≤ sizeLine := by
  obtain ⟨a, b, c⟩ := shown_list (ds := [.int i, .int j]) (n := 1) (m := 1921) (by
    intro d hd
    simp only [List.mem_cons, List.not_mem_nil, or_false] at hd
    rcases hd with rfl | rfl
    · exact shown_int hi
    · exact shown_int hj)
  refine ⟨a, by omega, ?_⟩
  rw [sizeLine_eq]
  have : ([PyData.int i, .int j] : List PyData).length = 2 := rfl
  rw [this] at c
  omega
/-! ### repr of data of any kind -/
def rReprV (K : PySem.W.Frag) : List V → Hp → VK → Prop := fun xs H Q => ∃ (v : V) (d : PyData), xs = [v] ∧ Dq K H v d ∧ d.showable = true ∧ d.depth ≤ 40 ∧ d.shown.length ≤ sizeLine ∧ Q (.str d.shown) H
theorem call_reprV {X : Cx} (S : SysK X.K) (gd : X.A.guards = some []) (hu : X.A.units + 64 < cLine) : CallR X (.builtin "repr") (rReprV X.K) := by
  intro pins s z H xs us Q I r h
  obtain ⟨v, d, rfl, hd, sh, dp, sz, q⟩ := h
  obtain ⟨u, rfl, r1⟩ := vals1 r
  have ref : ∀ {a : Addr}, v = .ref a → wpAny (model X.prog X.w) X.A (PySem.call (.builtin "repr") [u]) (EP X pins z Q) X.xe s := by
    rintro a rfl
    exact call_reprD S gd hu pins s z H [.ref a] [u] Q I (.cons r1 .nil) ⟨a, d, rfl, hd, sh, dp, sz, q⟩
  cases hd with
  | non =>
    cases r1
    simp only [PyData.shown] at q
    exact PySem.P.repr_of_none ⟨.str _, H, I.tok _, ⟨_, rfl⟩, q⟩
  | bl b =>
    cases r1
    simp only [PyData.shown] at q
    exact PySem.P.repr_of_bool ⟨.str _, H, I.tok _, ⟨_, rfl⟩, q⟩
  | int i =>
    obtain ⟨t, rfl⟩ := r1
    simp only [PyData.shown] at q
    exact PySem.P.repr_of_int (by simpa [PyData.showable] using sh) ⟨.str _, H, I.tok _, ⟨_, rfl⟩, q⟩
  | str x =>
    obtain ⟨t, rfl⟩ := r1
    simp only [PyData.shown] at q sz
    exact PySem.P.repr_of_str ⟨.str _, H, I.tok _, ⟨_, rfl⟩, q⟩ sz
  | lst _ _ => exact ref rfl
  | tup _ _ => exact ref rfl
  | dct _ _ => exact ref rfl
end GL
set_option maxHeartbeats 1000000
/-! == and != of tuples and lists whose items are compared by own methods: which of the two answers is given. -/
namespace PySem
namespace GE
open PySem.SeqAt
open AutoSeq1 (wpAny_loadPart')
open MeetsSeq MeetsSeq2 MeetsSeq3 SeqRoads2
section
variable {prog : Program} {w : World} {A : Around} {R : Result → Shared → Prop}
/-- one pair after the other: es i is what the i-th one gives; F holds at the end -/
def Turns (prog : Program) (w : World) (A : Around) (E : Value → Shared → Prop) (xs ys : Array Value) (es : Nat → Bool) (J : Nat → Shared → Prop) (F : Shared → Prop) : Prop :=
  ∀ i (p : i < xs.size) (q : i < ys.size) (s : Shared), J i s → wpAny (model prog w) A.in1 (eqBool xs[i] ys[i]) (fun r s' => r = es i ∧ F s' ∧ (es i = true → J (i + 1) s')) E s
def allB (m n : Nat) (es : Nat → Bool) (i : Nat) : Bool := ((List.range (min m n)).drop i).all es && m == n
theorem allB_step {m n i : Nat} {es : Nat → Bool} (h : i < min m n) : allB m n es i = (es i && allB m n es (i + 1)) := by
  have e : (List.range (min m n)).drop i = i :: (List.range (min m n)).drop (i + 1) := by simp [List.drop_eq_getElem_cons, h]
  unfold allB
  rw [e, List.all_cons, Bool.and_assoc]
theorem allB_end {m n i : Nat} {es : Nat → Bool} (h : min m n ≤ i) : allB m n es i = (m == n) := by
  unfold allB
  rw [List.drop_of_length_le (by simpa using h), List.all_nil, Bool.true_and]
theorem tup_eqB {l b : Addr} {xs ys : Array Value} {n m : Nat} {dd ee : Option Addr} {sl tl : Array (Option Value)} {J : Nat → Shared → Prop} {F : Shared → Prop} {es : Nat → Bool} (turn : Turns prog w A (fun e s' => R (.error e) s') xs ys es J F) (hJ : ∀ i s, J i s → F s)
    (fin : ∀ s, F s → R (.ok (.ret (.bool (allB xs.size ys.size es 0)))) s) {s : Shared} (hl : s.heap.get? l = some { cls := .type "tuple", dict := dd, data := .seq xs n, slots := sl }) (hb : s.heap.get? b = some { cls := .type "tuple", dict := ee, data := .seq ys m, slots := tl }) (h : J 0 s) :
    wpAny (model prog w) A.in1 (Builtin.«tuple.__eq__» ⟨[.ref l, .ref b], []⟩) (GQ.FinOf prog w A R) (fun e s' => R (.error e) s') s := by
  have f2 := AutoSeq1.sub_tuple_tuple
  have zl : (xs.toList.zip ys.toList).length = min xs.size ys.size := by simp
  have h0 := h
  generalize hk : allB xs.size ys.size es 0 = k at fin
  obtain ⟨hp, g, d, tk, os⟩ := s
  wp_walk using wpAny_loadPart' hl, wpAny_loadPart' hb, wpAny_forIn_list _ (fun rest c s' => c.1 = none ∧ ∃ i, rest = (xs.toList.zip ys.toList).drop i ∧ allB xs.size ys.size es i = k ∧ J i s') _
  case turn =>
    rintro ⟨y, x⟩ rest c s' ⟨hc, i, hz, hi, hJi⟩
    have lt : i < (xs.toList.zip ys.toList).length := by
      apply Nat.lt_of_not_le
      intro z
      rw [List.drop_of_length_le z] at hz
      cases hz
    have lm : i < min xs.size ys.size := zl ▸ lt
    have p : i < xs.size := Nat.lt_of_lt_of_le lm (Nat.min_le_left _ _)
    have q : i < ys.size := Nat.lt_of_lt_of_le lm (Nat.min_le_right _ _)
    rw [List.drop_eq_getElem_cons lt] at hz
    injection hz with e1 e2
    have ey : y = xs[i] := by simpa using congrArg Prod.fst e1
    have ex : x = ys[i] := by simpa using congrArg Prod.snd e1
    subst ey ex
    rw [allB_step lm] at hi
    refine wpAny_bind (wpAny_mono (turn i p q s' hJi) (fun r s2 z => ?_) fun _ _ z => z)
    obtain ⟨rfl, hF, hJ2⟩ := z
    cases he : es i with
    | true =>
      rw [he, Bool.true_and] at hi
      wp_walk
      exact ⟨rfl, i + 1, e2, hi, hJ2 he⟩
    | false =>
      rw [he, Bool.false_and] at hi
      subst hi
      wp_walk
      exact fin _ hF
  case fin =>
    rintro ⟨c1, c2⟩ s' ⟨hc, i, hz, hi, hJi⟩
    simp only at hc
    subst hc
    have ge : min xs.size ys.size ≤ i := by
      rw [← zl]
      apply Nat.le_of_not_lt
      intro z
      rw [List.drop_eq_getElem_cons z] at hz
      cases hz
    rw [allB_end ge] at hi
    subst hi
    wp_walk
    simpa [Builtin.Tuple.tupleCompareSizes] using fin _ (hJ _ _ hJi)
  case h =>
    exact ⟨rfl, 0, rfl, hk, h0⟩
theorem tup_neB {l b : Addr} {xs ys : Array Value} {n m : Nat} {dd ee : Option Addr} {sl tl : Array (Option Value)} {J : Nat → Shared → Prop} {F : Shared → Prop} {es : Nat → Bool} (turn : Turns prog w A (fun e s' => R (.error e) s') xs ys es J F) (hJ : ∀ i s, J i s → F s)
    (fin : ∀ s, F s → R (.ok (.ret (.bool !(allB xs.size ys.size es 0)))) s) {s : Shared} (hl : s.heap.get? l = some { cls := .type "tuple", dict := dd, data := .seq xs n, slots := sl }) (hb : s.heap.get? b = some { cls := .type "tuple", dict := ee, data := .seq ys m, slots := tl }) (h : J 0 s) :
    wpAny (model prog w) A.in1 (Builtin.«tuple.__ne__» ⟨[.ref l, .ref b], []⟩) (GQ.FinOf prog w A R) (fun e s' => R (.error e) s') s := by
  have f2 := AutoSeq1.sub_tuple_tuple
  have zl : (xs.toList.zip ys.toList).length = min xs.size ys.size := by simp
  have h0 := h
  generalize hk : allB xs.size ys.size es 0 = k at fin
  obtain ⟨hp, g, d, tk, os⟩ := s
  wp_walk using wpAny_loadPart' hl, wpAny_loadPart' hb, wpAny_forIn_list _ (fun rest c s' => c.1 = none ∧ ∃ i, rest = (xs.toList.zip ys.toList).drop i ∧ allB xs.size ys.size es i = k ∧ J i s') _
  case turn =>
    rintro ⟨y, x⟩ rest c s' ⟨hc, i, hz, hi, hJi⟩
    have lt : i < (xs.toList.zip ys.toList).length := by
      apply Nat.lt_of_not_le
      intro z
      rw [List.drop_of_length_le z] at hz
      cases hz
    have lm : i < min xs.size ys.size := zl ▸ lt
    have p : i < xs.size := Nat.lt_of_lt_of_le lm (Nat.min_le_left _ _)
    have q : i < ys.size := Nat.lt_of_lt_of_le lm (Nat.min_le_right _ _)
    rw [List.drop_eq_getElem_cons lt] at hz
    injection hz with e1 e2
    have ey : y = xs[i] := by simpa using congrArg Prod.fst e1
    have ex : x = ys[i] := by simpa using congrArg Prod.snd e1
    subst ey ex
    rw [allB_step lm] at hi
    refine wpAny_bind (wpAny_mono (turn i p q s' hJi) (fun r s2 z => ?_) fun _ _ z => z)
    obtain ⟨rfl, hF, hJ2⟩ := z
    cases he : es i with
    | true =>
      rw [he, Bool.true_and] at hi
      wp_walk
      exact ⟨rfl, i + 1, e2, hi, hJ2 he⟩
    | false =>
      rw [he, Bool.false_and] at hi
      subst hi
      wp_walk
      exact fin _ hF
  case fin =>
    rintro ⟨c1, c2⟩ s' ⟨hc, i, hz, hi, hJi⟩
    simp only at hc
    subst hc
    have ge : min xs.size ys.size ≤ i := by
      rw [← zl]
      apply Nat.le_of_not_lt
      intro z
      rw [List.drop_eq_getElem_cons z] at hz
      cases hz
    rw [allB_end ge] at hi
    subst hi
    wp_walk
    simpa [Builtin.Tuple.tupleCompareSizes, bne] using fin _ (hJ _ _ hJi)
  case h =>
    exact ⟨rfl, 0, rfl, hk, h0⟩
/-- the two lists are read anew at each turn -/
def LTurns (prog : Program) (w : World) (A : Around) (E : Value → Shared → Prop) (l b : Addr) (N : Nat) (es : Nat → Bool) (J : Nat → Shared → Prop) (F : Shared → Prop) : Prop :=
  ∀ i (s : Shared), J i s → ∃ (xs ys : Array Value) (n m : Nat), s.heap.get? l = some { cls := .type "list", data := .seq xs n } ∧ s.heap.get? b = some { cls := .type "list", data := .seq ys m } ∧ xs.size = N ∧ ys.size = N ∧
    ∀ (p : i < xs.size) (q : i < ys.size), wpAny (model prog w) A.in1 (eqBool xs[i] ys[i]) (fun r s' => r = es i ∧ F s' ∧ (es i = true → J (i + 1) s')) E s
/-- both can be read -/
def LRead (l b : Addr) (N : Nat) (F : Shared → Prop) : Prop := ∀ s : Shared, F s → ∃ (xs ys : Array Value) (n m : Nat), s.heap.get? l = some { cls := .type "list", data := .seq xs n } ∧ s.heap.get? b = some { cls := .type "list", data := .seq ys m } ∧ xs.size = N ∧ ys.size = N
theorem lst_loopeqB {l b : Addr} {N : Nat} {J : Nat → Shared → Prop} {F : Shared → Prop} {es : Nat → Bool} {k : Bool} (turn : LTurns prog w A (fun e s' => R (.error e) s') l b N es J F) (rd : LRead l b N F) (hJF : ∀ i s, J i s → F s) (fin : ∀ s, F s → R (.ok (.ret (.bool k))) s) (c : Nat) :
    ∀ i : Nat, N - i = c → i ≤ N → allB N N es i = k → ∀ s, J i s → wpAny (model prog w) A.in1 (Builtin.«list.__eq__.loop» ⟨[.ref l, .ref b, rawInt i, rawInt 2], []⟩) (GQ.FinOf prog w A R) (fun e s' => R (.error e) s') s := by
  induction c with
  | zero =>
    intro i hc hi hk s hJ
    obtain ⟨xs, ys, n, m, hl, hb, s1, s2, _⟩ := turn i s hJ
    have last : i = N := by omega
    have hq := fin s (hJF _ _ hJ)
    rw [allB_end (by omega)] at hk
    subst hk
    obtain ⟨hp, g, d, tk, os⟩ := s
    wp_walk using wpAny_loadPart' hl, wpAny_loadPart' hb
    have o1 : xs[((i : Nat) : Int).toNat]? = none := by simp; omega
    have o2 : ys[((i : Nat) : Int).toNat]? = none := by simp; omega
    rw [o1, o2]
    wp_walk using wpAny_loadPart' hl, wpAny_loadPart' hb
    show R (.ok (.ret (.bool (xs.size == ys.size)))) _
    rw [s1, s2]
    simpa using hq
  | succ c ih =>
    intro i hc hi hk s hJ
    obtain ⟨xs, ys, n, m, hl, hb, s1, s2, one⟩ := turn i s hJ
    have p : i < xs.size := by omega
    have q : i < ys.size := by omega
    have ht := one p q
    rw [allB_step (by omega)] at hk
    obtain ⟨hp, g, d, tk, os⟩ := s
    wp_walk using wpAny_loadPart' hl, wpAny_loadPart' hb
    have o1 : xs[((i : Nat) : Int).toNat]? = some xs[i] := by simp [p]
    have o2 : ys[((i : Nat) : Int).toNat]? = some ys[i] := by simp [q]
    have nx : ((i : Int) + 1) = ((i + 1 : Nat) : Int) := by omega
    rw [o1, o2]
    refine wpAny_bind (wpAny_mono ht (fun r s2 z => ?_) fun _ _ z => z)
    obtain ⟨rfl, hF, hJ2⟩ := z
    cases he : es i with
    | true =>
      rw [he, Bool.true_and] at hk
      have more := ih (i + 1) (by omega) (by omega) hk s2 (hJ2 he)
      obtain ⟨hp2, g2, d2, tk2, os2⟩ := s2
      wp_walk
      rw [nx]
      refine ⟨plainId_quiet plain_eq_loop _, codeAny_builtin entry_eq_loop ?_⟩
      rw [Around.under_plainId plain_eq_loop _]
      exact more
    | false =>
      rw [he, Bool.false_and] at hk
      subst hk
      obtain ⟨xs2, ys2, n2, m2, hl2, hb2, t1, t2⟩ := rd s2 hF
      have hq := fin s2 hF
      obtain ⟨hp2, g2, d2, tk2, os2⟩ := s2
      wp_walk using wpAny_loadPart' hl2, wpAny_loadPart' hb2
      have u1 : xs2[((i : Nat) : Int).toNat]? = some (xs2[i]'(by omega)) := by simp
      have u2 : ys2[((i : Nat) : Int).toNat]? = some (ys2[i]'(by omega)) := by simp
      rw [u1, u2]
      wp_walk
      exact hq
theorem lst_eqB {l b : Addr} {N : Nat} {J : Nat → Shared → Prop} {F : Shared → Prop} {es : Nat → Bool} {k : Bool} (turn : LTurns prog w A (fun e s' => R (.error e) s') l b N es J F) (rd : LRead l b N F) (hJF : ∀ i s, J i s → F s) (fin : ∀ s, F s → R (.ok (.ret (.bool k))) s) (hk : allB N N es 0 = k) {s : Shared} (h : J 0 s) :
    wpAny (model prog w) A.in1 (Builtin.«list.__eq__» ⟨[.ref l, .ref b], []⟩) (GQ.FinOf prog w A R) (fun e s' => R (.error e) s') s := by
  obtain ⟨xs, ys, n, m, hl, hb, s1, s2, _⟩ := turn 0 s h
  have more := lst_loopeqB (A := A) turn rd hJF fin _ 0 rfl (Nat.zero_le _) hk s h
  obtain ⟨hp, g, d, tk, os⟩ := s
  have f3 := AutoSeq1.sub_list_list
  have same : ¬ (xs.size != ys.size) = true := by simp [s1, s2]
  wp_walk using wpAny_loadPart' hl, wpAny_loadPart' hb
  refine ⟨plainId_quiet plain_eq_loop _, codeAny_builtin entry_eq_loop ?_⟩
  rw [Around.under_plainId plain_eq_loop _]
  exact more
theorem lst_loopneB {l b : Addr} {N : Nat} {J : Nat → Shared → Prop} {F : Shared → Prop} {es : Nat → Bool} {k : Bool} (turn : LTurns prog w A (fun e s' => R (.error e) s') l b N es J F) (rd : LRead l b N F) (hJF : ∀ i s, J i s → F s) (fin : ∀ s, F s → R (.ok (.ret (.bool !k))) s) (c : Nat) :
    ∀ i : Nat, N - i = c → i ≤ N → allB N N es i = k → ∀ s, J i s → wpAny (model prog w) A.in1 (Builtin.«list.__eq__.loop» ⟨[.ref l, .ref b, rawInt i, rawInt 3], []⟩) (GQ.FinOf prog w A R) (fun e s' => R (.error e) s') s := by
  induction c with
  | zero =>
    intro i hc hi hk s hJ
    obtain ⟨xs, ys, n, m, hl, hb, s1, s2, _⟩ := turn i s hJ
    have last : i = N := by omega
    have hq := fin s (hJF _ _ hJ)
    rw [allB_end (by omega)] at hk
    subst hk
    obtain ⟨hp, g, d, tk, os⟩ := s
    wp_walk using wpAny_loadPart' hl, wpAny_loadPart' hb
    have o1 : xs[((i : Nat) : Int).toNat]? = none := by simp; omega
    have o2 : ys[((i : Nat) : Int).toNat]? = none := by simp; omega
    rw [o1, o2]
    wp_walk using wpAny_loadPart' hl, wpAny_loadPart' hb
    show R (.ok (.ret (.bool (xs.size != ys.size)))) _
    rw [s1, s2]
    simpa using hq
  | succ c ih =>
    intro i hc hi hk s hJ
    obtain ⟨xs, ys, n, m, hl, hb, s1, s2, one⟩ := turn i s hJ
    have p : i < xs.size := by omega
    have q : i < ys.size := by omega
    have ht := one p q
    rw [allB_step (by omega)] at hk
    obtain ⟨hp, g, d, tk, os⟩ := s
    wp_walk using wpAny_loadPart' hl, wpAny_loadPart' hb
    have o1 : xs[((i : Nat) : Int).toNat]? = some xs[i] := by simp [p]
    have o2 : ys[((i : Nat) : Int).toNat]? = some ys[i] := by simp [q]
    have nx : ((i : Int) + 1) = ((i + 1 : Nat) : Int) := by omega
    rw [o1, o2]
    refine wpAny_bind (wpAny_mono ht (fun r s2 z => ?_) fun _ _ z => z)
    obtain ⟨rfl, hF, hJ2⟩ := z
    cases he : es i with
    | true =>
      rw [he, Bool.true_and] at hk
      have more := ih (i + 1) (by omega) (by omega) hk s2 (hJ2 he)
      obtain ⟨hp2, g2, d2, tk2, os2⟩ := s2
      wp_walk
      rw [nx]
      refine ⟨plainId_quiet plain_eq_loop _, codeAny_builtin entry_eq_loop ?_⟩
      rw [Around.under_plainId plain_eq_loop _]
      exact more
    | false =>
      rw [he, Bool.false_and] at hk
      subst hk
      obtain ⟨xs2, ys2, n2, m2, hl2, hb2, t1, t2⟩ := rd s2 hF
      have hq := fin s2 hF
      obtain ⟨hp2, g2, d2, tk2, os2⟩ := s2
      wp_walk using wpAny_loadPart' hl2, wpAny_loadPart' hb2
      have u1 : xs2[((i : Nat) : Int).toNat]? = some (xs2[i]'(by omega)) := by simp
      have u2 : ys2[((i : Nat) : Int).toNat]? = some (ys2[i]'(by omega)) := by simp
      rw [u1, u2]
      wp_walk
      exact hq
theorem lst_neB {l b : Addr} {N : Nat} {J : Nat → Shared → Prop} {F : Shared → Prop} {es : Nat → Bool} {k : Bool} (turn : LTurns prog w A (fun e s' => R (.error e) s') l b N es J F) (rd : LRead l b N F) (hJF : ∀ i s, J i s → F s) (fin : ∀ s, F s → R (.ok (.ret (.bool !k))) s) (hk : allB N N es 0 = k) {s : Shared} (h : J 0 s) :
    wpAny (model prog w) A.in1 (Builtin.«list.__ne__» ⟨[.ref l, .ref b], []⟩) (GQ.FinOf prog w A R) (fun e s' => R (.error e) s') s := by
  obtain ⟨xs, ys, n, m, hl, hb, s1, s2, _⟩ := turn 0 s h
  have more := lst_loopneB (A := A) turn rd hJF fin _ 0 rfl (Nat.zero_le _) hk s h
  obtain ⟨hp, g, d, tk, os⟩ := s
  have f3 := AutoSeq1.sub_list_list
  have same : ¬ (xs.size != ys.size) = true := by simp [s1, s2]
  wp_walk using wpAny_loadPart' hl, wpAny_loadPart' hb
  refine ⟨plainId_quiet plain_eq_loop _, codeAny_builtin entry_eq_loop ?_⟩
  rw [Around.under_plainId plain_eq_loop _]
  exact more
end
end GE
end PySem
set_option maxHeartbeats 1000000
/-! == and != of tuples and lists of own instances, as rules: which answer is given. -/
namespace GL
open PySem PySem.Spec PyProof.Rows L2
abbrev DB : Type := V → V → Bool → Hp → Prop
def MonB (D : DB) : Prop := ∀ x y b H H', Same H H' → D x y b H → D x y b H'
/-- == inside a builtin gives what D says -/
def EqB (X : Cx) (n : Nat) (D : DB) : Prop :=
  ∀ (A : Around) (pins : List (Addr × Obj)) (s : Shared) (σ : L2.St) (H : Hp) (x y : V) (u v : Value) (b : Bool), Sub X n A → Inv X pins σ H s → L2.RelV x u → L2.RelV y v → D x y b H →
    wpAny (model X.prog X.w) A (eqBool u v) (fun r s' => r = b ∧ ∃ H', Inv X pins σ H' s' ∧ Same H H') X.xe s
/-- == (op = .Eq), != (op = .NotEq) as comparisons; g: what is made of D's word -/
def RcB (X : Cx) (n : Nat) (op : CmpOp) (g : Bool → Bool) (D : DB) : Prop :=
  ∀ (A : Around) (pins : List (Addr × Obj)) (s : Shared) (σ : L2.St) (H : Hp) (x y : V) (u v : Value) (b : Bool), Sub X n A → Inv X pins σ H s → L2.RelV x u → L2.RelV y v → D x y b H →
    wpAny (model X.prog X.w) A (richCompare op u v) (fun r s' => r = .bool (g b) ∧ ∃ H', Inv X pins σ H' s' ∧ Same H H') X.xe s
section
variable {X : Cx} {n m : Nat} {D D' : DB}
theorem EqB.mono (h : EqB X n D) (l : n ≤ m) : EqB X m D := fun A pins s σ H x y u v b sb => h A pins s σ H x y u v b (sb.mono l)
theorem EqB.or (h : EqB X n D) (h' : EqB X n D') : EqB X n (fun x y b H => D x y b H ∨ D' x y b H) := by
  intro A pins s σ H x y u v b sb I rx ry d
  rcases d with d | d
  · exact h A pins s σ H x y u v b sb I rx ry d
  · exact h' A pins s σ H x y u v b sb I rx ry d
theorem MonB.or (h : MonB D) (h' : MonB D') : MonB (fun x y b H => D x y b H ∨ D' x y b H) := fun x y b H H' k d => d.imp (h x y b H H' k) (h' x y b H H' k)
/-- flat things -/
def FlatB : DB := fun x y b _ => flatV x = true ∧ flatV y = true ∧ b = eqV x y
theorem monB_flat : MonB FlatB := fun _ _ _ _ _ _ d => d
theorem eqB_flat : EqB X 0 FlatB := by
  intro A pins s σ H x y u v b sb I rx ry d
  obtain ⟨fx, fy, rfl⟩ := d
  exact eqAt_V (A := A) (s := s) rx ry fx fy X.prog X.w X.xe _ ⟨rfl, H, I, fun _ _ e => e⟩
/-- the same thing is equal to itself -/
theorem RcB.eqB (h : RcB X n .Eq id D) (hr : ∀ x y b H, D x y b H → ∃ a c, x = .ref a ∧ y = .ref c ∧ (a = c → b = true)) : EqB X n D := by
  intro A pins s σ H x y u v b sb I rx ry d
  obtain ⟨a, c, rfl, rfl, same⟩ := hr _ _ _ _ d
  cases (show u = Value.ref a from rx)
  cases (show v = Value.ref c from ry)
  by_cases e : a = c
  · cases e
    rw [same rfl]
    exact SeqAt.EqAt.same (A := A) (s := s) (.ref a) X.prog X.w X.xe _ ⟨rfl, H, I, fun _ _ e => e⟩
  · refine GQ.eqBool_refG e (wpAny_mono (h A pins s σ H (V.ref a) (V.ref c) _ _ b sb I rfl rfl d) (fun r s' z => ?_) fun _ _ z => z)
    obtain ⟨rfl, z⟩ := z
    exact ⟨b, rfl, rfl, z⟩
/-- two instances of one class, by its own __eq__ -/
def InsB (C : Addr) (sp : Sp) (E : XK) : DB := fun x y b H => ∃ a c dx dy fs gs, x = .ref a ∧ y = .ref c ∧ H a = some (.ins C dx fs) ∧ H c = some (.ins C dy gs) ∧ (a = c → b = true) ∧ sp [x, y] H (fun v H' => v = .bl b ∧ Same H H') E
theorem rcB_ins {CX : CXT} {C f : Addr} {sp : Sp} {E : XK} (B : GL.OwnEq X.K C f) (F : FnR X.prog X.w X.K X.mg X.base CX n f sp) (hx : Passes CX X E) : RcB X n .Eq id (InsB C sp E) := by
  intro A pins s σ H x y u v b sb I rx ry d
  obtain ⟨a, c, dx, dy, fs, gs, rfl, rfl, ha, hc, _, q⟩ := d
  cases (show u = Value.ref a from rx)
  cases (show v = Value.ref c from ry)
  obtain ⟨ox, od, J⟩ := inst_of I ha
  obtain ⟨oy, oe, J'⟩ := inst_of I hc
  have e0 : Env0 X.prog X.w X.K X.mg X.base A X.stack s H := by
    have e := I.env0
    exact { e with frames := sb.fr.trans e.frames }
  have run := F A X.stack s H [.ref a, .ref c] [.ref a, .ref c] _ E sb.room e0 (Paired.cons (a := V.ref a) (b := Value.ref a) rfl (Paired.cons (a := V.ref c) (b := Value.ref c) rfl .nil)) q
  have z : wpAny (model X.prog X.w) A (PySem.call (.ref f) [.ref a, .ref c]) (PySem.W.CmpBack fun r s' => r = .bool b ∧ ∃ H', Inv X pins σ H' s' ∧ Same H H') X.xe s := by
    refine wpAny_call (codeAny_mono run fun r s' z => ?_)
    match r, z with
    | .error er, z => exact hx pins σ H s er s' I z
    | .ok .next, z => exact False.elim z
    | .ok .brk, z => exact False.elim z
    | .ok .cont, z => exact False.elim z
    | .ok (.ret w), z =>
      obtain ⟨z1, H', I', rz, rfl, k⟩ := I.after z
      cases (show w = Value.bool b from rz)
      exact ⟨rfl, H', I', k⟩
  rcases s with ⟨hp, g, dd, tk, os⟩
  have e : PySem.W.findIn X.K (.ref C) (cmpInfo .Eq).2.1 = some (some (.ref f)) := B.m.at_
  exact PySem.GO.cmp_any (op := .Eq) (.inl rfl) sb.room.units0 I.kIn J J'.type (by simp [PySem.W.notFirst]) e (PySem.W.bind_fn I.kIn _ (isFn_ty B.m.fn)) z
theorem eqB_ins {CX : CXT} {C f : Addr} {sp : Sp} {E : XK} (B : GL.OwnEq X.K C f) (F : FnR X.prog X.w X.K X.mg X.base CX n f sp) (hx : Passes CX X E) : EqB X n (InsB C sp E) :=
  (rcB_ins B F hx).eqB fun x y b H d => by
    obtain ⟨a, c, dx, dy, fs, gs, e1, e2, _, _, same, _⟩ := d
    exact ⟨a, c, e1, e2, same⟩

/-! ### item by item -/
def ItemsB (D : DB) (xs ys : List V) (es : Nat → Bool) (H : Hp) : Prop := ∀ (i : Nat) x y, (∀ j, j < i → es j = true) → xs[i]? = some x → ys[i]? = some y → D x y (es i) H
/-- as far as the items ahead were equal -/
def LoopB (X : Cx) (pins : List (Addr × Obj)) (σ : L2.St) (H : Hp) (es : Nat → Bool) (i : Nat) (s' : Shared) : Prop := LoopI X pins σ H s' ∧ ∀ j, j < i → es j = true
theorem ItemsB.same (hD : MonB D) {xs ys : List V} {es : Nat → Bool} {H H' : Hp} (k : Same H H') (p : ItemsB D xs ys es H) : ItemsB D xs ys es H' := fun i x y h0 h1 h2 => hD _ _ _ _ _ k (p i x y h0 h1 h2)
theorem one_turn (hD : MonB D) (h : EqB X n D) {A : Around} (sb : Sub X (n + 1) A) {pins : List (Addr × Obj)} {σ : L2.St} {H : Hp} {xs ys : List V} {es : Nat → Bool} {us vs : List Value} (p : ItemsB D xs ys es H) (r : Vals xs us) (r2 : Vals ys vs)
    (i : Nat) (h1 : i < us.toArray.size) (h2 : i < vs.toArray.size) (s' : Shared) (l : LoopB X pins σ H es i s') :
    wpAny (model X.prog X.w) A.in1 (eqBool us.toArray[i] vs.toArray[i]) (fun r s2 => r = es i ∧ LoopI X pins σ H s2 ∧ (es i = true → LoopB X pins σ H es (i + 1) s2)) X.xe s' := by
  obtain ⟨⟨H1, I1, k1⟩, ahead⟩ := l
  have l1 : i < us.length := by simpa using h1
  have l2 : i < vs.length := by simpa using h2
  have m1 : i < xs.length := by rw [r.length]; exact l1
  have m2 : i < ys.length := by rw [r2.length]; exact l2
  obtain ⟨u, hu, ru⟩ := r.get (List.getElem?_eq_getElem m1)
  obtain ⟨v, hv, rv⟩ := r2.get (List.getElem?_eq_getElem m2)
  have eu : us.toArray[i] = u := by
    rw [List.getElem?_eq_getElem l1] at hu
    simpa using Option.some.inj hu
  have ev : vs.toArray[i] = v := by
    rw [List.getElem?_eq_getElem l2] at hv
    simpa using Option.some.inj hv
  rw [eu, ev]
  refine wpAny_mono (h A.in1 pins s' σ H1 _ _ u v _ sb.in1 I1 ru rv (hD _ _ _ _ _ k1 (p i _ _ ahead (List.getElem?_eq_getElem m1) (List.getElem?_eq_getElem m2)))) (fun r s2 z => ?_) fun _ _ z => z
  obtain ⟨rfl, H2, I2, k2⟩ := z
  refine ⟨rfl, ⟨H2, I2, k1.trans k2⟩, fun e => ⟨⟨H2, I2, k1.trans k2⟩, fun j hj => ?_⟩⟩
  by_cases q : j = i
  · rw [q]
    exact e
  · exact ahead j (by omega)
def TupB (K : PySem.W.Frag) (D : DB) : DB := fun x y b H => ∃ a c xs ys es, x = .ref a ∧ y = .ref c ∧ SqT K H a xs ∧ SqT K H c ys ∧ ItemsB D xs ys es H ∧ b = PySem.GE.allB xs.length ys.length es 0
theorem rcB_tup (hD : MonB D) (h : EqB X n D) : RcB X (n + 1) .Eq id (TupB X.K D) := by
  intro A pins s σ H x y u v b sb I rx ry d
  obtain ⟨a, c, xs, ys, es, rfl, rfl, ha, hc, p, rfl⟩ := d
  cases (show u = Value.ref a from rx)
  cases (show v = Value.ref c from ry)
  obtain ⟨us, r, e, z⟩ := I.tuple ha
  obtain ⟨vs, r2, e2, z2⟩ := I.tuple hc
  have s1 : us.toArray.size = xs.length := by rw [List.size_toArray, ← r.length]
  have s2 : vs.toArray.size = ys.length := by rw [List.size_toArray, ← r2.length]
  obtain ⟨⟨cls, dd, data, sl⟩, ho, hc1, k1, hd1⟩ := id e
  obtain ⟨⟨cls2, dd2, data2, sl2⟩, ho2, hc2, k2, hd2⟩ := id e2
  dsimp only at hc1 hd1 hc2 hd2
  subst hc1 hd1 hc2 hd2
  refine wpAny_richCompare_same_room (op := .Eq) ⟨_, ho, rfl⟩ ⟨_, ho2, rfl⟩ F.slot_tuple_eq (GQ.call_here F.slot_tuple_eq ⟨_, ho, rfl⟩ F.entry_tuple_eq (F.args_tuple_eq_2 _ _) ?_) sb.room.units0
  refine PySem.GE.tup_eqB (es := es) (J := LoopB X pins σ H es) (F := LoopI X pins σ H) (fun i h1 h2 s' q => one_turn hD h sb p r r2 i h1 h2 s' q) (fun _ _ q => q.1) (fun s' q => ⟨(fun z => nomatch z), ?_⟩) ho ho2 ⟨⟨H, I, fun _ _ e => e⟩, fun j hj => absurd hj (Nat.not_lt_zero _)⟩
  rw [s1, s2]
  exact ⟨rfl, q⟩
theorem rcN_tup (hD : MonB D) (h : EqB X n D) : RcB X (n + 1) .NotEq not (TupB X.K D) := by
  intro A pins s σ H x y u v b sb I rx ry d
  obtain ⟨a, c, xs, ys, es, rfl, rfl, ha, hc, p, rfl⟩ := d
  cases (show u = Value.ref a from rx)
  cases (show v = Value.ref c from ry)
  obtain ⟨us, r, e, z⟩ := I.tuple ha
  obtain ⟨vs, r2, e2, z2⟩ := I.tuple hc
  have s1 : us.toArray.size = xs.length := by rw [List.size_toArray, ← r.length]
  have s2 : vs.toArray.size = ys.length := by rw [List.size_toArray, ← r2.length]
  obtain ⟨⟨cls, dd, data, sl⟩, ho, hc1, k1, hd1⟩ := id e
  obtain ⟨⟨cls2, dd2, data2, sl2⟩, ho2, hc2, k2, hd2⟩ := id e2
  dsimp only at hc1 hd1 hc2 hd2
  subst hc1 hd1 hc2 hd2
  refine wpAny_richCompare_same_room (op := .NotEq) ⟨_, ho, rfl⟩ ⟨_, ho2, rfl⟩ F.slot_tuple_ne (GQ.call_here F.slot_tuple_ne ⟨_, ho, rfl⟩ F.entry_tuple_ne (F.args_tuple_ne_2 _ _) ?_) sb.room.units0
  refine PySem.GE.tup_neB (es := es) (J := LoopB X pins σ H es) (F := LoopI X pins σ H) (fun i h1 h2 s' q => one_turn hD h sb p r r2 i h1 h2 s' q) (fun _ _ q => q.1) (fun s' q => ⟨(fun z => nomatch z), ?_⟩) ho ho2 ⟨⟨H, I, fun _ _ e => e⟩, fun j hj => absurd hj (Nat.not_lt_zero _)⟩
  rw [s1, s2]
  exact ⟨rfl, q⟩
/-- tuples in tuples -/
def TupS (K : PySem.W.Frag) (D : DB) : DB := fun x y b H => TupB K D x y b H ∧ (x = y → b = true)
theorem eqB_tup (hD : MonB D) (h : EqB X n D) : EqB X (n + 1) (TupS X.K D) := by
  have r : RcB X (n + 1) .Eq id (TupS X.K D) := fun A pins s σ H x y u v b sb I rx ry d => rcB_tup hD h A pins s σ H x y u v b sb I rx ry d.1
  refine r.eqB fun x y b H d => ?_
  obtain ⟨⟨a, c, xs, ys, es, rfl, rfl, _⟩, same⟩ := d
  exact ⟨a, c, rfl, rfl, fun e => same (by rw [e])⟩
theorem monB_tup {K : PySem.W.Frag} (hD : MonB D) : MonB (TupB K D) := by
  intro x y b H H' k d
  obtain ⟨a, c, xs, ys, es, e1, e2, ha, hc, p, e⟩ := d
  exact ⟨a, c, xs, ys, es, e1, e2, ha.ext k, hc.ext k, p.same hD k, e⟩
theorem monB_tupS {K : PySem.W.Frag} (hD : MonB D) : MonB (TupS K D) := fun x y b H H' k d => ⟨monB_tup hD x y b H H' k d.1, d.2⟩
/-- lists of one length, tracked -/
def LstB (D : DB) : DB := fun x y b H => ∃ a c xs ys es, x = .ref a ∧ y = .ref c ∧ H a = some (.lst xs) ∧ H c = some (.lst ys) ∧ xs.length = ys.length ∧ ItemsB D xs ys es H ∧ b = PySem.GE.allB xs.length xs.length es 0
theorem lst_turns (hD : MonB D) (h : EqB X n D) {A : Around} (sb : Sub X (n + 1) A) {pins : List (Addr × Obj)} {σ : L2.St} {H : Hp} {a c : Addr} {xs ys : List V} {es : Nat → Bool} (ha : H a = some (.lst xs)) (hc : H c = some (.lst ys)) (hl : xs.length = ys.length) (p : ItemsB D xs ys es H) :
    PySem.GE.LTurns X.prog X.w A X.xe a c xs.length es (LoopB X pins σ H es) (LoopI X pins σ H) := by
  intro i s' q
  obtain ⟨⟨H1, I1, k1⟩, _⟩ := id q
  obtain ⟨z, us, k, r, e⟩ := I1.hok a _ (k1 _ _ ha)
  obtain ⟨z2, vs, k2, r2, e2⟩ := I1.hok c _ (k1 _ _ hc)
  refine ⟨us.toArray, vs.toArray, k, k2, e, e2, ?_, ?_, fun h1 h2 => one_turn hD h sb p r r2 i h1 h2 s' q⟩
  · rw [List.size_toArray, ← r.length]
  · rw [List.size_toArray, ← r2.length, hl]
theorem lst_read {pins : List (Addr × Obj)} {σ : L2.St} {H : Hp} {a c : Addr} {xs ys : List V} (ha : H a = some (.lst xs)) (hc : H c = some (.lst ys)) (hl : xs.length = ys.length) : PySem.GE.LRead a c xs.length (LoopI X pins σ H) := by
  intro s' q
  obtain ⟨H1, I1, k1⟩ := q
  obtain ⟨z, us, k, r, e⟩ := I1.hok a _ (k1 _ _ ha)
  obtain ⟨z2, vs, k2, r2, e2⟩ := I1.hok c _ (k1 _ _ hc)
  refine ⟨us.toArray, vs.toArray, k, k2, e, e2, ?_, ?_⟩
  · rw [List.size_toArray, ← r.length]
  · rw [List.size_toArray, ← r2.length, hl]
theorem rcB_lst (hD : MonB D) (h : EqB X n D) : RcB X (n + 1) .Eq id (LstB D) := by
  intro A pins s σ H x y u v b sb I rx ry d
  obtain ⟨a, c, xs, ys, es, rfl, rfl, ha, hc, hl, p, rfl⟩ := d
  cases (show u = Value.ref a from rx)
  cases (show v = Value.ref c from ry)
  obtain ⟨z, us, k, r, e⟩ := I.hok a _ ha
  obtain ⟨z2, vs, k2, r2, e2⟩ := I.hok c _ hc
  refine wpAny_richCompare_same_room (op := .Eq) ⟨_, e, rfl⟩ ⟨_, e2, rfl⟩ F.slot_list_eq (GQ.call_here F.slot_list_eq ⟨_, e, rfl⟩ F.entry_list_eq (F.args_list_eq_2 _ _) ?_) sb.room.units0
  exact PySem.GE.lst_eqB (lst_turns hD h sb ha hc hl p) (lst_read ha hc hl) (fun _ _ q => q.1) (fun s' q => ⟨(fun z => nomatch z), rfl, q⟩) rfl ⟨⟨H, I, fun _ _ e => e⟩, fun j hj => absurd hj (Nat.not_lt_zero _)⟩
theorem rcN_lst (hD : MonB D) (h : EqB X n D) : RcB X (n + 1) .NotEq not (LstB D) := by
  intro A pins s σ H x y u v b sb I rx ry d
  obtain ⟨a, c, xs, ys, es, rfl, rfl, ha, hc, hl, p, rfl⟩ := d
  cases (show u = Value.ref a from rx)
  cases (show v = Value.ref c from ry)
  obtain ⟨z, us, k, r, e⟩ := I.hok a _ ha
  obtain ⟨z2, vs, k2, r2, e2⟩ := I.hok c _ hc
  refine wpAny_richCompare_same_room (op := .NotEq) ⟨_, e, rfl⟩ ⟨_, e2, rfl⟩ F.slot_list_ne (GQ.call_here F.slot_list_ne ⟨_, e, rfl⟩ F.entry_list_ne (F.args_list_ne_2 _ _) ?_) sb.room.units0
  exact PySem.GE.lst_neB (lst_turns hD h sb ha hc hl p) (lst_read ha hc hl) (fun _ _ q => q.1) (fun s' q => ⟨(fun z => nomatch z), rfl, q⟩) rfl ⟨⟨H, I, fun _ _ e => e⟩, fun j hj => absurd hj (Nat.not_lt_zero _)⟩
/-! ### as operators -/
def rCmpB (g : Bool → Bool) (D : DB) : R2 := fun x y H Q => ∃ b, D x y b H ∧ ∀ H', Same H H' → Q (.bl (g b)) H'
theorem op_rc {op : CmpOp} {g : Bool → Bool} (hc : ∀ u v : Value, compareOp op u v = richCompare op u v) (h : RcB X n op g D) (hr : Room n X.A) : OpR X (compareOp op) (rCmpB g D) := by
  intro pins s σ H x y v u Q I rx ry hq
  obtain ⟨b, d, q⟩ := hq
  rw [hc]
  refine wpAny_mono (h X.A pins s σ H x y v u b ⟨hr, rfl⟩ I rx ry d) (fun r s' z => ?_) fun _ _ z => z
  obtain ⟨rfl, H', I', k⟩ := z
  exact ⟨.bl (g b), H', I', rfl, q H' k⟩
theorem op_eqT (hD : MonB D) (h : EqB X n D) (hr : Room (n + 1) X.A) : OpR X (compareOp .Eq) (rCmpB id (TupB X.K D)) := op_rc (fun _ _ => rfl) (rcB_tup hD h) hr
theorem op_neT (hD : MonB D) (h : EqB X n D) (hr : Room (n + 1) X.A) : OpR X (compareOp .NotEq) (rCmpB not (TupB X.K D)) := op_rc (fun _ _ => rfl) (rcN_tup hD h) hr
theorem op_eqL (hD : MonB D) (h : EqB X n D) (hr : Room (n + 1) X.A) : OpR X (compareOp .Eq) (rCmpB id (LstB D)) := op_rc (fun _ _ => rfl) (rcB_lst hD h) hr
theorem op_neL (hD : MonB D) (h : EqB X n D) (hr : Room (n + 1) X.A) : OpR X (compareOp .NotEq) (rCmpB not (LstB D)) := op_rc (fun _ _ => rfl) (rcN_lst hD h) hr
end
end GL
set_option maxHeartbeats 1000000
/-! o.f as a target among others; the heap without one thing. -/
namespace GL
open PySem PySem.Spec PyProof.Rows L2
def gFld (K : PySem.W.Frag) (to : TE) (f : Str) : TG := fun y σ H Q => to σ H fun x H2 => ∃ a C dx fs, x = .ref a ∧ H2 a = some (.ins C dx fs) ∧ Cls K C ∧ NoAttr K C f ∧ fs.length < 1000 ∧ Q σ (upd H2 a (.ins C dx (putF f y fs)))
theorem pg_fld {X : Cx} {o : Expr} {to : TE} {f : Str} {pos : Pos} (ho : PE X o to) : PG X (.Attribute o f pos) (gFld X.K to f) := by
  constructor
  intro pins s σ H y u Q I ry h
  refine PySem.W.kas_attr (thn (ho.run pins s σ H _ I h) ?_)
  rintro ov s2 ⟨x, H2, I2, rx, a, C, dx, fs, rfl, ea, c, n, l, q⟩
  cases (show ov = Value.ref a from rx)
  exact setattr_ok I2 ea c n l ry fun s3 I3 => ⟨σ, _, I3, q⟩
/-- all but the thing at w -/
def off (H : Hp) (w : Addr) : Hp := fun a => if a = w then none else H a
theorem off_ne {H : Hp} {w a : Addr} (h : a ≠ w) : off H w a = H a := if_neg h
theorem off_at {H : Hp} {w : Addr} : off H w w = none := if_pos rfl
theorem off_some {H : Hp} {w a : Addr} {o : HO} (h : off H w a = some o) : a ≠ w ∧ H a = some o := by
  by_cases e : a = w
  · rw [e, off_at] at h
    cases h
  · rw [off_ne e] at h
    exact ⟨e, h⟩
theorem off_same {H H' : Hp} {w : Addr} (k : Same (off H w) H') : Same (off H w) (off H' w) := fun a o e => by
  rw [off_ne (off_some e).1]
  exact k a o e
theorem off_upd {H H' : Hp} {w : Addr} {o : HO} (k : Same (off H w) H') : Same (off H w) (upd H' w o) := fun a u e => by
  rw [upd_ne (off_some e).1]
  exact k a u e
theorem off_of {H : Hp} {w a : Addr} {o u : HO} (e : H w = some o) (h : H a = some u) (ne : u ≠ o) : off H w a = some u := by
  rw [off_ne]
  · exact h
  · rintro rfl
    rw [e] at h
    exact ne (Option.some.inj h).symm
theorem off_le {H : Hp} {w : Addr} : Same (off H w) H := fun a o e => (off_some e).2
/-- x(e, ..), x a local that holds a class of the program -/
def tMakeL (i : Nat) (C : Addr) (sp : Sp) (dvs : List V) (E : XK) (t : TA) : TE := fun σ H Q => σ[i]? = some (some (.ref C)) ∧ tMake C sp dvs E t σ H Q
theorem pe_makeL {X : Cx} {CX : CXT} {k i : Nat} {f C : Addr} {fd : FuncData} {ps : List Str} {sp : Sp} {dvs : List V} {ds : List Value} {E : XK} {x : Str} {p pos : Pos} {e : Expr} {es : List Expr} {t : TA} (M : Mk X.K C f) (F : FnOk X.prog X.w X.K X.mg X.base CX k f fd ps sp) (hr : Room (k + 1) X.A)
    (hN : X.N[i]? = some x) (hv : Vis X.env.scope x) (hb : Binds X.K fd ps ds) (hd : Vals dvs ds) (hx : Passes CX X E) (ha : PA X (e :: es) t) (h1 : (x == ("__debug__" : Str)) = false := by decide) (h2 : (x == ("__classdict__" : Str)) = false := by decide)
    (h3 : starEach (e :: es) X.env = (false, eval e X.env) :: starEach es X.env := by rfl) (h4 : (backTo pos (starEach es X.env)).any (·.1) = false := by rfl) : PE X (.Call (.Name x p) (e :: es) [] pos) (tMakeL i C sp dvs E t) := by
  constructor
  intro pins s σ H Q I h
  obtain ⟨at_, h⟩ := h
  apply wpAny_Call_Name_kw
  have name := (pe_var (X := X) (pos := p) hN hv h1 h2).run pins s σ H (fun v H1 => v = .ref C ∧ H1 = H) I ⟨.ref C, at_, rfl, rfl⟩
  refine thn name ?_
  rintro u s1 ⟨v, H1, I1, r1, rfl, rfl⟩
  cases (show u = Value.ref C from r1)
  refine PySem.W.callWith_K (h₀ := X.base) I.ok.mod.kin M.kp (thn (ha.run pos pins s1 σ _ _ I1 h) ?_) h3 h4
  rintro us s2 ⟨vs, H2, I2, r, q⟩
  exact ⟨I2.kIn, run_make M F hr hb hd hx I2 r q⟩
end GL
set_option maxHeartbeats 4000000
/-! x is True; heaps whose tables of code objects grow. -/
namespace GL
open PySem PySem.Spec PyProof.Rows L2
theorem op_isB {X : Cx} : OpR X (compareOp .Is) (fun x y H Q => ∃ a b, x = .bl a ∧ y = .bl b ∧ Q (.bl (a == b)) H) := by
  intro pins s z H x y v u Q I rx ry h
  obtain ⟨a, b, rfl, rfl, q⟩ := h
  cases rx
  cases ry
  cases a <;> cases b <;> exact wpAny_pure (fin_bl I q rfl)
/-- what is not a table -/
def noT (H : Hp) : Hp := fun b => match H b with
  | some (.tbl _) => none
  | o => o
section
variable {H H' : Hp} {b : Addr} {o : HO}
theorem noT_some (e : noT H b = some o) : H b = some o ∧ ∀ ps, o ≠ .tbl ps := by
  unfold noT at e
  split at e
  · cases e
  · rename_i n
    exact ⟨e, fun ps z => n ps (by rw [e, z])⟩
theorem noT_at (e : H b = some o) (n : ∀ ps, o ≠ .tbl ps) : noT H b = some o := by
  unfold noT
  split
  · rename_i z
    rw [e] at z
    cases z
    exact absurd rfl (n _)
  · exact e
theorem extN_same (k : LamX.ExtN H H') : Same (noT H) H' := fun b o e => k b o (noT_some e).1 (noT_some e).2
theorem same_extN (k : Same H H') : LamX.ExtN H H' := fun b o e _ => k b o e
theorem Tabs.same {T : List (Addr × Str)} (t : LamX.Tabs T H) (k : Same H H') : LamX.Tabs T H' := t.ext k
theorem codeO_lst {c : Addr} {q : Str} {xs : List V} : LamX.CodeO c q ≠ .lst xs := fun z => by
  unfold LamX.CodeO at z
  cases z
theorem Tabs.offP {T : List (Addr × Str)} {p : Addr} {xs : List V} (t : LamX.Tabs T H) (e : H p = some (.lst xs)) : LamX.Tabs T (off H p) := fun x hx => by
  obtain ⟨ps, h1, h2, h3⟩ := t x hx
  refine ⟨ps, ?_, h2, fun pos cv hc => ?_⟩
  · rw [off_ne (fun z => by rw [z, e] at h1; cases h1)]
    exact h1
  · obtain ⟨c, e1, e2⟩ := h3 pos cv hc
    refine ⟨c, e1, ?_⟩
    rw [off_ne (fun z => by rw [z, e] at e2; exact codeO_lst (Option.some.inj e2).symm)]
    exact e2
end
end GL
set_option maxHeartbeats 4000000
/-! A law one of whose defs makes lambdas: the table of its code object, in the hook and at the end. -/
namespace GL
open PySem PySem.Spec PyProof.Rows L2
/-- a table in which nothing is yet -/
def isTab (o : Obj) : Bool := match o with
  | ⟨.none, none, .fields vs, sl⟩ => vs.isEmpty && sl.isEmpty
  | _ => false
theorem isTab_eq {o : Obj} (h : isTab o = true) : o = { cls := .none, data := .fields #[] } := by
  unfold isTab at h
  split at h
  · rename_i vs sl
    obtain ⟨h1, h2⟩ := He.ba h
    rw [Array.isEmpty_iff.mp h1, Array.isEmpty_iff.mp h2]
  · cases h
def codeAt (K : PySem.W.Frag) (f : Addr) : Addr := match K.lookup f with
  | some ⟨_, _, .func fd, _⟩ => (match fd.code with | .ref c => c | _ => 0)
  | _ => 0
def tabAt (K : PySem.W.Frag) (c : Addr) : Addr := match K.lookup c with
  | some ⟨_, _, .fields vs, _⟩ => (match (vs[11]? : Option Value) with | some (.ref p) => p | _ => 0)
  | _ => 0
def codeB (K : PySem.W.Frag) (f : Addr) : Bool := (match K.lookup f with
  | some ⟨_, _, .func fd, _⟩ => (match fd.code with | .ref _ => true | _ => false)
  | _ => false) && ((match K.lookup (codeAt K f) with
  | some ⟨.type "code", _, .fields vs, _⟩ => (match (vs[11]? : Option Value) with | some (.ref _) => true | _ => false) && ((match vs.getD 18 .none with | .str _ _ => true | _ => false) && ((match vs.getD 7 .none with | .int _ _ => true | _ => false) &&
      ((match vs.getD 9 .none with | .bool _ => true | _ => false) && (match vs.getD 10 .none with | .int _ _ => true | _ => false))))
  | _ => false) && (!(codeAt K f == tabAt K (codeAt K f)) && (K.lookup (tabAt K (codeAt K f))).isNone))
theorem codeB_ok {K : PySem.W.Frag} {h : Heap} {f : Addr} (KX : K.In h) (b : codeB K f = true) : PySem.W.CodeHd h (codeAt K f) (tabAt K (codeAt K f)) ∧ K.lookup (tabAt K (codeAt K f)) = none ∧
    ∀ oc od fd osl, K.lookup f = some ⟨oc, od, .func fd, osl⟩ → fd.code = .ref (codeAt K f) := by
  obtain ⟨b1, b2⟩ := He.ba b
  obtain ⟨b2, b3⟩ := He.ba b2
  obtain ⟨b3, b4⟩ := He.ba b3
  refine ⟨?_, by simpa using b4, fun oc od fd osl e => ?_⟩
  · have ne : codeAt K f ≠ tabAt K (codeAt K f) := by simpa using b3
    generalize hc : codeAt K f = c at *
    unfold tabAt at ne ⊢
    split at b2
    · rename_i dd vs sl e
      rw [e] at ne ⊢
      dsimp only at ne ⊢
      obtain ⟨c1, c2⟩ := He.ba b2
      obtain ⟨c2, c3⟩ := He.ba c2
      obtain ⟨c3, c4⟩ := He.ba c3
      obtain ⟨c4, c5⟩ := He.ba c4
      split at c1
      · rename_i p ep
        try rw [ep] at ne
        dsimp only at ne
        split at c2
        · rename_i x1 x2 e1
          split at c3
          · rename_i y1 y2 e2
            split at c4
            · rename_i z1 e3
              split at c5
              · rename_i w1 w2 e4
                exact ⟨_, vs, x1, x2, y1, y2, z1, w1, w2, KX _ _ e, rfl, rfl, ep, by rw [Array.getD_eq_getD_getElem?, ep]; rfl, e1, e2, e3, e4, ne⟩
              · cases c5
            · cases c4
          · cases c3
        · cases c2
      · cases c1
    · cases b2
  · unfold codeAt
    rw [e] at b1 ⊢
    dsimp only at b1 ⊢
    split at b1
    · rename_i c ec
      rw [ec]
    · cases b1
/-- as kOfT, without the tables -/
def kOfC (n : Nat) (g : Addr → Option Obj) : PySem.W.Frag := He.frG g ((cStatics :: sysModules :: lvls g n [mainGlobals]).filter fun a => match g a with | some o => !isTab o | none => true)
def tabF (n : Nat) (fr : PySem.W.Frag → Addr) (g : Addr → Option Obj) : PySem.W.Frag := He.frG g [tabAt (kOfC n g) (codeAt (kOfC n g) (fr (kOfC n g)))]
def tabB (K T : PySem.W.Frag) (f : Addr) : Bool := codeB K f && (match T.lookup (tabAt K (codeAt K f)) with | some o => isTab o | none => false)
def obsC (n : Nat) (fa : List He.Fa) (fn : List He.DefD) (fx : List DefX) (ex : PySem.W.Frag → Bool) (fr : PySem.W.Frag → Addr) (g : Addr → Option Obj) : AlZ :=
  (He.obsD fa fn (kOfC n g), (fx.map (fnX (kOfC n g)), fx.all (okX (kOfC n g)) && (ex (kOfC n g) && tabB (kOfC n g) (tabF n fr g) (fr (kOfC n g)))))
def hookC (n : Nat) (fa : List He.Fa) (fn : List He.DefD) (fx : List DefX) (ex : PySem.W.Frag → Bool) (fr : PySem.W.Frag → Addr) : PySem.W.Hook where
  α := AlZ
  obs := fun s => obsC n fa fn fx ex fr s.heap.get?
  val := fun _ => (He.valD fn, (fx.map (fun x : DefX => x.d.val), true))
  says := fun _ h => ∃ K T : PySem.W.Frag, K.In h ∧ T.In h ∧ He.SaysD fa fn K ∧ SaysX fx K ∧ ex K = true ∧ tabB K T (fr K) = true
  of := fun _ s e => by
    have e1 := congrArg (fun z : AlZ => z.1) e
    have e2 := congrArg (fun z : AlZ => z.2.1) e
    have e3 := congrArg (fun z : AlZ => z.2.2) e
    obtain ⟨f1, f2⟩ := He.ba (show (fx.all (okX (kOfC n s.heap.get?)) && (ex (kOfC n s.heap.get?) && tabB (kOfC n s.heap.get?) (tabF n fr s.heap.get?) (fr (kOfC n s.heap.get?)))) = true from e3)
    obtain ⟨f2, f3⟩ := He.ba f2
    exact ⟨kOfC n s.heap.get?, tabF n fr s.heap.get?, He.frG_in, He.frG_in, e1, ⟨e2, f1⟩, f2, f3⟩
  keeps := fun _ _ _ ⟨K, T, hK, hT, c⟩ k => ⟨K, T, PySem.W.Frag.In.keeps hK k, PySem.W.Frag.In.keeps hT k, c⟩
theorem obsC_eq {n : Nat} {fa : List He.Fa} {fn : List He.DefD} {fx : List DefX} {ex : PySem.W.Frag → Bool} {fr : PySem.W.Frag → Addr} {g : Addr → Option Obj} {s : Shared} (h : ∀ a, g a = s.heap.get? a) : obsC n fa fn fx ex fr g = (hookC n fa fn fx ex fr).obs s := by
  have e : g = s.heap.get? := funext h
  rw [e]
  rfl
section
open HandSHeadRun
theorem run_partsC {r : PySem.W.OpenRow} {q : Program} {n : Nat} {fa : List He.Fa} {fn : List He.DefD} {fx : List DefX} {ex : PySem.W.Frag → Bool} {fr : PySem.W.Frag → Addr} {M : Nat} {loose : List PySem.Str} {w : World}
    (h1 : (wholeF (fun p => stepQ (denQ tabQ) p w) fenceQ M r.prog).map (fun x => (looksF r.prog x.1.heap x.2.abs, seenQ q loose (importedModules r.prog.main.body) (fun s => PySem.W.xlAt q [] s && PySem.W.recOk r.toRowW.records s) x.2.abs)) = some (true, PySem.W.openGood q loose))
    (h2 : (wholeF (fun p => stepQ (denQ tabQ) p w) fenceQ M r.prog).map (fun x => He.obsD fa fn (kOfC n (getT x.2))) = some (He.valD fn))
    (h3 : (wholeF (fun p => stepQ (denQ tabQ) p w) fenceQ M r.prog).map (fun x => (fx.map (fnX (kOfC n (getT x.2))), fx.all (okX (kOfC n (getT x.2))) && (ex (kOfC n (getT x.2)) && tabB (kOfC n (getT x.2)) (tabF n fr (getT x.2)) (fr (kOfC n (getT x.2)))))) = some (fx.map (fun x : DefX => x.d.val), true)) :
    RunEqI r q (hookC n fa fn fx ex fr) (fun s => obsC n fa fn fx ex fr (getT s)) M loose w := by
  unfold RunEqI
  cases e : wholeF (fun p => stepQ (denQ tabQ) p w) fenceQ M r.prog with
  | none =>
    rw [e] at h1
    cases h1
  | some x =>
    rw [e] at h1 h2 h3
    have a1 := Option.some.inj h1
    have a2 := Option.some.inj h2
    have a3 := Option.some.inj h3
    obtain ⟨b1, b2⟩ := Prod.mk.inj a1
    refine congrArg some (Prod.ext b1 (Prod.ext b2 ?_))
    exact Prod.ext a2 a3
end
end GL
set_option maxHeartbeats 4000000
/-! As GB, several defs that make lambdas: a table for each. -/
namespace GL
open PySem PySem.Spec PyProof.Rows L2
def tabF2 (n : Nat) (fr : PySem.W.Frag → List Addr) (g : Addr → Option Obj) : PySem.W.Frag := He.frG g ((fr (kOfC n g)).map fun f => tabAt (kOfC n g) (codeAt (kOfC n g) f))
def tabB2 (K T : PySem.W.Frag) (fs : List Addr) : Bool := fs.all fun f => tabB K T f
def obsC2 (n : Nat) (fa : List He.Fa) (fn : List He.DefD) (fx : List DefX) (ex : PySem.W.Frag → Bool) (fr : PySem.W.Frag → List Addr) (g : Addr → Option Obj) : AlZ :=
  (He.obsD fa fn (kOfC n g), (fx.map (fnX (kOfC n g)), fx.all (okX (kOfC n g)) && (ex (kOfC n g) && tabB2 (kOfC n g) (tabF2 n fr g) (fr (kOfC n g)))))
def hookC2 (n : Nat) (fa : List He.Fa) (fn : List He.DefD) (fx : List DefX) (ex : PySem.W.Frag → Bool) (fr : PySem.W.Frag → List Addr) : PySem.W.Hook where
  α := AlZ
  obs := fun s => obsC2 n fa fn fx ex fr s.heap.get?
  val := fun _ => (He.valD fn, (fx.map (fun x : DefX => x.d.val), true))
  says := fun _ h => ∃ K T : PySem.W.Frag, K.In h ∧ T.In h ∧ He.SaysD fa fn K ∧ SaysX fx K ∧ ex K = true ∧ tabB2 K T (fr K) = true
  of := fun _ s e => by
    have e1 := congrArg (fun z : AlZ => z.1) e
    have e2 := congrArg (fun z : AlZ => z.2.1) e
    have e3 := congrArg (fun z : AlZ => z.2.2) e
    obtain ⟨f1, f2⟩ := He.ba (show (fx.all (okX (kOfC n s.heap.get?)) && (ex (kOfC n s.heap.get?) && tabB2 (kOfC n s.heap.get?) (tabF2 n fr s.heap.get?) (fr (kOfC n s.heap.get?)))) = true from e3)
    obtain ⟨f2, f3⟩ := He.ba f2
    exact ⟨kOfC n s.heap.get?, tabF2 n fr s.heap.get?, He.frG_in, He.frG_in, e1, ⟨e2, f1⟩, f2, f3⟩
  keeps := fun _ _ _ ⟨K, T, hK, hT, c⟩ k => ⟨K, T, PySem.W.Frag.In.keeps hK k, PySem.W.Frag.In.keeps hT k, c⟩
theorem obsC2_eq {n : Nat} {fa : List He.Fa} {fn : List He.DefD} {fx : List DefX} {ex : PySem.W.Frag → Bool} {fr : PySem.W.Frag → List Addr} {g : Addr → Option Obj} {s : Shared} (h : ∀ a, g a = s.heap.get? a) : obsC2 n fa fn fx ex fr g = (hookC2 n fa fn fx ex fr).obs s := by
  have e : g = s.heap.get? := funext h
  rw [e]
  rfl
section
open HandSHeadRun
theorem run_partsC2 {r : PySem.W.OpenRow} {q : Program} {n : Nat} {fa : List He.Fa} {fn : List He.DefD} {fx : List DefX} {ex : PySem.W.Frag → Bool} {fr : PySem.W.Frag → List Addr} {M : Nat} {loose : List PySem.Str} {w : World}
    (h1 : (wholeF (fun p => stepQ (denQ tabQ) p w) fenceQ M r.prog).map (fun x => (looksF r.prog x.1.heap x.2.abs, seenQ q loose (importedModules r.prog.main.body) (fun s => PySem.W.xlAt q [] s && PySem.W.recOk r.toRowW.records s) x.2.abs)) = some (true, PySem.W.openGood q loose))
    (h2 : (wholeF (fun p => stepQ (denQ tabQ) p w) fenceQ M r.prog).map (fun x => He.obsD fa fn (kOfC n (getT x.2))) = some (He.valD fn))
    (h3 : (wholeF (fun p => stepQ (denQ tabQ) p w) fenceQ M r.prog).map (fun x => (fx.map (fnX (kOfC n (getT x.2))), fx.all (okX (kOfC n (getT x.2))) && (ex (kOfC n (getT x.2)) && tabB2 (kOfC n (getT x.2)) (tabF2 n fr (getT x.2)) (fr (kOfC n (getT x.2)))))) = some (fx.map (fun x : DefX => x.d.val), true)) :
    RunEqI r q (hookC2 n fa fn fx ex fr) (fun s => obsC2 n fa fn fx ex fr (getT s)) M loose w := by
  unfold RunEqI
  cases e : wholeF (fun p => stepQ (denQ tabQ) p w) fenceQ M r.prog with
  | none =>
    rw [e] at h1
    cases h1
  | some x =>
    rw [e] at h1 h2 h3
    have a1 := Option.some.inj h1
    have a2 := Option.some.inj h2
    have a3 := Option.some.inj h3
    obtain ⟨b1, b2⟩ := Prod.mk.inj a1
    refine congrArg some (Prod.ext b1 (Prod.ext b2 ?_))
    exact Prod.ext a2 a3
end
end GL
set_option maxHeartbeats 0
namespace K18
open PySem PySem.Spec PyProof.Rows L2 GL
def plain (x : Str) (i : Nat) : He.DefD := ⟨(x, none), x, x, defArgs (tp i), defBody (tp i), defScope (tp i), [], []⟩
def fns : List He.DefD := [⟨("InvalidNumber", some "__init__"), "__init__", "InvalidNumber.__init__", defArgs (inClass (tp 4) 0), defBody (inClass (tp 4) 0), defScope (inClass (tp 4) 0), [], []⟩,
  ⟨("InvalidCut", some "__init__"), "__init__", "InvalidCut.__init__", defArgs (inClass (tp 5) 0), defBody (inClass (tp 5) 0), defScope (inClass (tp 5) 0), [], []⟩,
  ⟨("InvalidStretch", some "__init__"), "__init__", "InvalidStretch.__init__", defArgs (inClass (tp 6) 0), defBody (inClass (tp 6) 0), defScope (inClass (tp 6) 0), [], []⟩,
  ⟨("InvalidRange", some "__init__"), "__init__", "InvalidRange.__init__", defArgs (inClass (tp 7) 0), defBody (inClass (tp 7) 0), defScope (inClass (tp 7) 0), [], []⟩,
  plain "is_integer" 11,
  plain "is_number" 13,
  ⟨("Ratio", some "__init__"), "__init__", "Ratio.__init__", defArgs (inClass (tp 14) 0), defBody (inClass (tp 14) 0), defScope (inClass (tp 14) 0), [.int 1], []⟩,
  ⟨("Ratio", some "is_below"), "is_below", "Ratio.is_below", defArgs (inClass (tp 14) 7), defBody (inClass (tp 14) 7), defScope (inClass (tp 14) 7), [], []⟩,
  ⟨("Ratio", some "over"), "over", "Ratio.over", defArgs (inClass (tp 14) 8), defBody (inClass (tp 14) 8), defScope (inClass (tp 14) 8), [], []⟩,
  ⟨("Ratio", some "__add__"), "__add__", "Ratio.__add__", defArgs (inClass (tp 14) 9), defBody (inClass (tp 14) 9), defScope (inClass (tp 14) 9), [], []⟩,
  ⟨("Ratio", some "__sub__"), "__sub__", "Ratio.__sub__", defArgs (inClass (tp 14) 10), defBody (inClass (tp 14) 10), defScope (inClass (tp 14) 10), [], []⟩,
  ⟨("Ratio", some "__mul__"), "__mul__", "Ratio.__mul__", defArgs (inClass (tp 14) 11), defBody (inClass (tp 14) 11), defScope (inClass (tp 14) 11), [], []⟩,
  ⟨("Ratio", some "__eq__"), "__eq__", "Ratio.__eq__", defArgs (inClass (tp 14) 13), defBody (inClass (tp 14) 13), defScope (inClass (tp 14) 13), [], []⟩,
  ⟨("Ratio", some "__repr__"), "__repr__", "Ratio.__repr__", defArgs (inClass (tp 14) 15), defBody (inClass (tp 14) 15), defScope (inClass (tp 14) 15), [], []⟩,
  plain "is_cut" 17,
  plain "is_stretch" 18,
  plain "ratio_cut" 19,
  plain "is_above" 20,
  plain "is_ahead" 21,
  plain "precedes" 22,
  plain "is_within" 23,
  plain "mark_of" 24,
  ⟨("Range", some "__init__"), "__init__", "Range.__init__", defArgs (inClass (tp 25) 0), defBody (inClass (tp 25) 0), defScope (inClass (tp 25) 0), [], []⟩,
  ⟨("Range", some "outer"), "outer", "Range.outer", defArgs (inClass (tp 25) 3), defBody (inClass (tp 25) 3), defScope (inClass (tp 25) 3), [], []⟩,
  ⟨("Range", some "is_inner"), "is_inner", "Range.is_inner", defArgs (inClass (tp 25) 4), defBody (inClass (tp 25) 4), defScope (inClass (tp 25) 4), [], []⟩,
  ⟨("Range", some "fit"), "fit", "Range.fit", defArgs (inClass (tp 25) 5), defBody (inClass (tp 25) 5), defScope (inClass (tp 25) 5), [], []⟩,
  ⟨("Range", some "has_stretch"), "has_stretch", "Range.has_stretch", defArgs (inClass (tp 25) 6), defBody (inClass (tp 25) 6), defScope (inClass (tp 25) 6), [], []⟩,
  ⟨("Range", some "__contains__"), "__contains__", "Range.__contains__", defArgs (inClass (tp 25) 7), defBody (inClass (tp 25) 7), defScope (inClass (tp 25) 7), [], []⟩,
  ⟨("Range", some "__eq__"), "__eq__", "Range.__eq__", defArgs (inClass (tp 25) 8), defBody (inClass (tp 25) 8), defScope (inClass (tp 25) 8), [], []⟩,
  ⟨("Range", some "__repr__"), "__repr__", "Range.__repr__", defArgs (inClass (tp 25) 9), defBody (inClass (tp 25) 9), defScope (inClass (tp 25) 9), [], []⟩,
  plain "_law_rng" 27,
  plain "_law_draw" 28,
  plain "_law_choice" 29,
  plain "_law_plain" 30,
  plain "_law_sum" 31,
  plain "_law_less" 32,
  plain "_law_fraction" 33,
  plain "_law_real" 34,
  plain "_law_is" 35,
  plain "_law_told" 36,
  plain "_law_ahead" 37,
  plain "_law_above" 38,
  plain "_law_handed" 39,
  plain "_law_is_cut" 40,
  plain "_law_mark" 41,
  plain "_law_pair_right" 42,
  plain "_law_wider_right" 43,
  plain "_law_range_right" 44,
  plain "_law_refused_right" 45,
  plain "_law_right" 46,
  plain "law" 47]
def fxs : List DefX := [⟨fun K => wrapAt K (He.ga K "Ratio") "of" "classmethod", ⟨("Ratio", some "of"), "of", "Ratio.of", defArgs (inClass (tp 14) 1), defBody (inClass (tp 14) 1), defScope (inClass (tp 14) 1), [], []⟩⟩,
  ⟨fun K => wrapAt K (He.ga K "Ratio") "top" "property", ⟨("Ratio", some "top"), "top", "Ratio.top", defArgs (inClass (tp 14) 4), defBody (inClass (tp 14) 4), defScope (inClass (tp 14) 4), [], []⟩⟩,
  ⟨fun K => wrapAt K (He.ga K "Ratio") "bottom" "property", ⟨("Ratio", some "bottom"), "bottom", "Ratio.bottom", defArgs (inClass (tp 14) 5), defBody (inClass (tp 14) 5), defScope (inClass (tp 14) 5), [], []⟩⟩,
  ⟨fun K => wrapAt K (He.ga K "Range") "low" "property", ⟨("Range", some "low"), "low", "Range.low", defArgs (inClass (tp 25) 1), defBody (inClass (tp 25) 1), defScope (inClass (tp 25) 1), [], []⟩⟩,
  ⟨fun K => wrapAt K (He.ga K "Range") "high" "property", ⟨("Range", some "high"), "high", "Range.high", defArgs (inClass (tp 25) 2), defBody (inClass (tp 25) 2), defScope (inClass (tp 25) 2), [], []⟩⟩]
def fas : List He.Fa := [.glo "FadeError",
  .glo "InvalidNumber",
  .glo "InvalidCut",
  .glo "InvalidStretch",
  .glo "InvalidRange",
  .glo "is_integer",
  .glo "is_number",
  .glo "Ratio",
  .glo "is_cut",
  .glo "is_stretch",
  .glo "ratio_cut",
  .glo "is_above",
  .glo "is_ahead",
  .glo "precedes",
  .glo "is_within",
  .glo "mark_of",
  .glo "Range",
  .glo "_law_rng",
  .glo "_law_draw",
  .glo "_law_choice",
  .glo "_law_plain",
  .glo "_law_sum",
  .glo "_law_less",
  .glo "_law_fraction",
  .glo "_law_real",
  .glo "_law_is",
  .glo "_law_told",
  .glo "_law_ahead",
  .glo "_law_above",
  .glo "_law_handed",
  .glo "_law_is_cut",
  .glo "_law_mark",
  .glo "_law_pair_right",
  .glo "_law_wider_right",
  .glo "_law_range_right",
  .glo "_law_refused_right",
  .glo "_law_right",
  .glo "law",
  .free "isinstance",
  .free "int",
  .free "bool",
  .free "len",
  .free "abs",
  .free "max",
  .free "min",
  .free "divmod",
  .free "str",
  .free "list",
  .free "all",
  .free "range",
  .free "tuple",
  .free "repr",
  .free "any",
  .free "zip",
  .cls "Ratio",
  .noat "Ratio" "_top",
  .noat "Ratio" "_bottom",
  .mkr "Ratio",
  .cls "Range",
  .noat "Range" "_low",
  .noat "Range" "_high",
  .mkr "Range",
  .meth "Ratio" "is_below",
  .meth "Ratio" "over",
  .meth "Ratio" "__add__",
  .meth "Ratio" "__sub__",
  .meth "Ratio" "__mul__",
  .meth "Ratio" "__eq__",
  .meth "Ratio" "__repr__",
  .meth "Range" "outer",
  .meth "Range" "is_inner",
  .meth "Range" "fit",
  .meth "Range" "has_stretch",
  .meth "Range" "__contains__",
  .meth "Range" "__eq__",
  .meth "Range" "__repr__"]
def mroB (K : PySem.W.Frag) (C : Addr) : Bool := match PySem.W.clsIn K C with
  | some cd => (match cd.mro with | .ref a :: _ => a == C | _ => false)
  | none => false
def chks (K : PySem.W.Frag) : List Bool := [decide (PySem.W.specialIn K (.builtin "object.__class__") "__get__" = some (some (.builtin "getset_descriptor.__get__"))),
  decide (PySem.W.takesIn K (.builtin "object.__class__") = some true),
  He.eqO (PySem.W.findIn K (.ref (He.ga K "Ratio")) "__class__") (some (some (.builtin "object.__class__"))),
  decide (PySem.W.mroIn K (He.ga K "Ratio") (.type "object") = some true),
  He.eqO (PySem.W.findIn K (.ref (He.ga K "Ratio")) "__ne__") (some (some (.builtin "object.__ne__"))),
  He.eqO (PySem.W.findIn K (.ref (He.ga K "Range")) "__class__") (some (some (.builtin "object.__class__"))),
  decide (PySem.W.mroIn K (He.ga K "Range") (.type "object") = some true),
  He.eqO (PySem.W.findIn K (.ref (He.ga K "Range")) "__ne__") (some (some (.builtin "object.__ne__"))),
  decide (PySem.W.kitOne K (.ref (He.ga K "Ratio")) (.type "int") = some false),
  decide (PySem.W.kitOne K (.type "int") (.ref (He.ga K "Ratio")) = some false),
  He.eqO (PySem.W.findIn K (.ref (He.ga K "Ratio")) "__radd__") (some none),
  He.eqO (PySem.W.findIn K (.ref (He.ga K "Ratio")) "__rsub__") (some none),
  He.eqO (PySem.W.findIn K (.ref (He.ga K "Ratio")) "__rmul__") (some none),
  mroB K (He.ga K "Ratio"),
  decide (PySem.W.subIn K (.type "int") (.ref (He.ga K "Ratio")) = some false),
  propB K (He.ga K "Ratio") "top",
  propB K (He.ga K "Ratio") "bottom",
  propB K (He.ga K "Range") "low",
  propB K (He.ga K "Range") "high",
  cmetB K (He.ga K "Ratio") (.type "type") "of",
  PySem.W.readsIn K (He.ga K "Ratio") (.type "type"),
  He.eqO (PySem.W.specialIn K (.ref (He.ga K "Ratio")) "__getattribute__") (some (some (.builtin "type.__getattribute__"))),
  PySem.W.readsIn K (He.ga K "Range") (.type "type"),
  He.eqO (PySem.W.specialIn K (.ref (He.ga K "Range")) "__getattribute__") (some (some (.builtin "type.__getattribute__"))),
  He.eqO (PySem.W.nsIn K mainGlobals "gcd") (some (some (.builtin "math.gcd"))),
  xcB K (He.ga K "InvalidNumber") .ve,
  He.eqO (PySem.W.findIn K (.ref (He.ga K "InvalidNumber")) "value") (some none),
  He.eqO (PySem.W.findIn K (.ref (He.ga K "InvalidNumber")) "__init__") (some (some (.ref (He.ma K (He.ga K "InvalidNumber") "__init__")))),
  decide (PySem.W.typeIn K (.ref (He.ma K (He.ga K "InvalidNumber") "__init__")) = some (.type "function")),
  xcB K (He.ga K "InvalidCut") .ve,
  He.eqO (PySem.W.findIn K (.ref (He.ga K "InvalidCut")) "value") (some none),
  He.eqO (PySem.W.findIn K (.ref (He.ga K "InvalidCut")) "__init__") (some (some (.ref (He.ma K (He.ga K "InvalidCut") "__init__")))),
  decide (PySem.W.typeIn K (.ref (He.ma K (He.ga K "InvalidCut") "__init__")) = some (.type "function")),
  xcB K (He.ga K "InvalidStretch") .ve,
  He.eqO (PySem.W.findIn K (.ref (He.ga K "InvalidStretch")) "value") (some none),
  He.eqO (PySem.W.findIn K (.ref (He.ga K "InvalidStretch")) "__init__") (some (some (.ref (He.ma K (He.ga K "InvalidStretch") "__init__")))),
  decide (PySem.W.typeIn K (.ref (He.ma K (He.ga K "InvalidStretch") "__init__")) = some (.type "function")),
  xcB K (He.ga K "InvalidRange") .ve,
  He.eqO (PySem.W.findIn K (.ref (He.ga K "InvalidRange")) "value") (some none),
  He.eqO (PySem.W.findIn K (.ref (He.ga K "InvalidRange")) "__init__") (some (some (.ref (He.ma K (He.ga K "InvalidRange") "__init__")))),
  decide (PySem.W.typeIn K (.ref (He.ma K (He.ga K "InvalidRange") "__init__")) = some (.type "function")),
  !(tabAt K (codeAt K (He.ga K "_law_pair_right")) == tabAt K (codeAt K (He.ga K "_law_refused_right"))),
  decide (PySem.W.notFirst K (He.ga K "Range") (.type "tuple") = true),
  decide (PySem.W.kitOne K (.type "tuple") (.ref (He.ga K "Range")) = some false),
  decide (PySem.W.exmOne K (.ref (He.ga K "InvalidNumber")) (.ref (He.ga K "InvalidNumber")) = some true),
  decide (PySem.W.exmOne K (.ref (He.ga K "InvalidCut")) (.ref (He.ga K "InvalidNumber")) = some false),
  decide (PySem.W.exmOne K (.ref (He.ga K "InvalidCut")) (.ref (He.ga K "InvalidCut")) = some true),
  decide (PySem.W.exmOne K (.ref (He.ga K "InvalidStretch")) (.ref (He.ga K "InvalidNumber")) = some false),
  decide (PySem.W.exmOne K (.ref (He.ga K "InvalidStretch")) (.ref (He.ga K "InvalidCut")) = some false),
  decide (PySem.W.exmOne K (.ref (He.ga K "InvalidStretch")) (.ref (He.ga K "InvalidStretch")) = some true),
  decide (PySem.W.exmOne K (.ref (He.ga K "InvalidRange")) (.ref (He.ga K "InvalidNumber")) = some false),
  decide (PySem.W.exmOne K (.ref (He.ga K "InvalidRange")) (.ref (He.ga K "InvalidCut")) = some false),
  decide (PySem.W.exmOne K (.ref (He.ga K "InvalidRange")) (.ref (He.ga K "InvalidStretch")) = some false),
  decide (PySem.W.exmOne K (.ref (He.ga K "InvalidRange")) (.ref (He.ga K "InvalidRange")) = some true),
  decide (PySem.W.kitOne K (.type "NoneType") (.ref (He.ga K "Ratio")) = some false),
  decide (PySem.W.kitOne K (.type "str") (.ref (He.ga K "Ratio")) = some false),
  decide (PySem.W.kitOne K (.type "list") (.ref (He.ga K "Ratio")) = some false),
  decide (PySem.W.kitOne K (.type "tuple") (.ref (He.ga K "Ratio")) = some false),
  decide (PySem.W.kitOne K (.type "dict") (.ref (He.ga K "Ratio")) = some false),
  decide (PySem.W.kitOne K (.type "bool") (.ref (He.ga K "Ratio")) = some false),
  decide (PySem.W.kitOne K (.type "int") (.ref (He.ga K "Ratio")) = some false)]
def exB (K : PySem.W.Frag) : Bool := sysB K && (chks K).all id
def lamF (K : PySem.W.Frag) : List Addr := [He.ga K "_law_pair_right", He.ga K "_law_refused_right"]
end K18
set_option maxHeartbeats 0
namespace K18
open PySem PySem.Spec PyProof.Rows L2 GL
abbrev R : PySem.W.OpenRow := PySem.W.OpenLaw.row PySem.Challenge.rw_fademodes_k11_cuts_and_ranges
abbrev hk : PySem.W.Hook := hookC2 5 fas fns fxs exB lamF
def ob (s : PySem.W.SharedT) : AlZ := obsC2 5 fas fns fxs exB lamF (HandSHeadRun.getT s)
theorem ob_eq (s : PySem.W.SharedT) : ob s = hk.obs s.abs := obsC2_eq (HandSHeadRun.getT_eq s)
def loose : List PySem.Str := (["_wall", "__name__", "FadeError", "InvalidNumber", "InvalidCut", "InvalidStretch", "InvalidRange", "StateError", "DividedByZero", "is_integer", "is_number", "Ratio", "_ratios_of", "is_cut", "is_stretch", "ratio_cut", "is_above", "is_ahead", "precedes", "is_within"] : List PySem.Str) ++ (["mark_of", "Range", "_law_rng", "_law_draw", "_law_choice", "_law_plain", "_law_sum", "_law_less", "_law_fraction", "_law_real", "_law_is", "_law_told", "_law_ahead", "_law_above", "_law_handed", "_law_is_cut", "_law_mark", "_law_pair_right", "_law_wider_right", "_law_range_right"] : List PySem.Str) ++ (["_law_refused_right", "_law_right"] : List PySem.Str)
theorem run1 (w : World) : (HandSHeadRun.wholeF (fun p => HandSHeadRun.stepQ (HandSHeadRun.denQ HandSHeadRun.tabQ) p w) HandSHeadRun.fenceQ 20000 R.prog).map (fun x => (HandSHeadRun.looksF R.prog x.1.heap x.2.abs, HandSHeadRun.seenQ (PySem.W.view R.prog [0, 47]) loose (importedModules R.prog.main.body) (fun s => PySem.W.xlAt (PySem.W.view R.prog [0, 47]) [] s && PySem.W.recOk R.toRowW.records s) x.2.abs)) = some (true, PySem.W.openGood (PySem.W.view R.prog [0, 47]) loose) := by
  kernel_rfl
theorem run2 (w : World) : (HandSHeadRun.wholeF (fun p => HandSHeadRun.stepQ (HandSHeadRun.denQ HandSHeadRun.tabQ) p w) HandSHeadRun.fenceQ 20000 R.prog).map (fun x => He.obsD fas fns (kOfC 5 (HandSHeadRun.getT x.2))) = some (He.valD fns) := by
  kernel_rfl
theorem run3 (w : World) : (HandSHeadRun.wholeF (fun p => HandSHeadRun.stepQ (HandSHeadRun.denQ HandSHeadRun.tabQ) p w) HandSHeadRun.fenceQ 20000 R.prog).map (fun x => (fxs.map (fnX (kOfC 5 (HandSHeadRun.getT x.2))), fxs.all (okX (kOfC 5 (HandSHeadRun.getT x.2))) && (exB (kOfC 5 (HandSHeadRun.getT x.2)) && tabB2 (kOfC 5 (HandSHeadRun.getT x.2)) (tabF2 5 lamF (HandSHeadRun.getT x.2)) (lamF (kOfC 5 (HandSHeadRun.getT x.2)))))) = some (fxs.map (fun x : DefX => x.d.val), true) := by
  kernel_rfl
theorem run (w : World) : HandSHeadRun.RunEqI R (PySem.W.view R.prog [0, 47]) hk ob 20000 loose w := run_partsC2 (run1 w) (run2 w) (run3 w)
end K18
set_option maxHeartbeats 4000000
namespace K18
open PySem PySem.Spec PyProof.Rows L2 GL
/-! ### numbers in lowest terms -/
theorem norm {t b : Int} (hb : b ≠ 0) : t.fdiv (if 0 < b then (t.natAbs.gcd b.natAbs : Int) else -(t.natAbs.gcd b.natAbs : Int)) = (Rat.divInt t b).num ∧
    b.fdiv (if 0 < b then (t.natAbs.gcd b.natAbs : Int) else -(t.natAbs.gcd b.natAbs : Int)) = ((Rat.divInt t b).den : Int) := by
  have hg : b.gcd t = t.natAbs.gcd b.natAbs := Nat.gcd_comm _ _
  have g0 : 0 < t.natAbs.gcd b.natAbs := Nat.gcd_pos_of_pos_right _ (Int.natAbs_pos.mpr hb)
  rw [Rat.num_divInt, Rat.den_divInt, if_neg hb, hg]
  generalize hG : t.natAbs.gcd b.natAbs = G at *
  have dT : (G : Int) ∣ t := by
    rw [← hG]
    exact Int.ofNat_dvd_left.mpr (Nat.gcd_dvd_left _ _)
  have dB : (G : Int) ∣ b := by
    rw [← hG]
    exact Int.ofNat_dvd_left.mpr (Nat.gcd_dvd_right _ _)
  obtain ⟨x, rfl⟩ := dT
  obtain ⟨y, rfl⟩ := dB
  have gi : (0 : Int) < (G : Int) := by omega
  have gn : (G : Int) ≠ 0 := by omega
  have y0 : y ≠ 0 := by
    rintro rfl
    exact hb (Int.mul_zero _)
  have e3 : ((((G : Int) * y).natAbs / G : Nat) : Int) = (y.natAbs : Int) := by
    rw [Int.natAbs_mul, Int.natAbs_natCast, Nat.mul_div_cancel_left _ g0]
  rw [e3]
  by_cases hp : 0 < (G : Int) * y
  · have yp : 0 < y := by
      rcases Int.lt_or_gt_of_ne y0 with q | q
      · exact absurd (Int.mul_neg_of_pos_of_neg gi q) (by omega)
      · exact q
    rw [if_pos hp, Int.fdiv_eq_ediv_of_nonneg _ (by omega), Int.fdiv_eq_ediv_of_nonneg _ (by omega), Int.mul_ediv_cancel_left _ gn, Int.mul_ediv_cancel_left _ gn, Int.sign_eq_one_of_pos hp, Int.one_mul, Int.mul_ediv_cancel_left _ gn]
    exact ⟨rfl, by omega⟩
  · have hn : (G : Int) * y < 0 := by
      have : (G : Int) * y ≠ 0 := hb
      omega
    have yn : y < 0 := by
      rcases Int.lt_or_gt_of_ne y0 with q | q
      · exact q
      · exact absurd (Int.mul_pos gi q) hp
    have e1 : ((G : Int) * x).fdiv (-(G : Int)) = -x := by
      rw [← Int.neg_fdiv_neg, Int.neg_neg, Int.fdiv_eq_ediv_of_nonneg _ (by omega), ← Int.mul_neg, Int.mul_ediv_cancel_left _ gn]
    have e2 : ((G : Int) * y).fdiv (-(G : Int)) = -y := by
      rw [← Int.neg_fdiv_neg, Int.neg_neg, Int.fdiv_eq_ediv_of_nonneg _ (by omega), ← Int.mul_neg, Int.mul_ediv_cancel_left _ gn]
    rw [if_neg hp, e1, e2, Int.sign_eq_neg_one_of_neg hn, Int.neg_one_mul, ← Int.mul_neg, Int.mul_ediv_cancel_left _ gn]
    exact ⟨rfl, by omega⟩
/-! ### the class Ratio -/
abbrev aR (K : PySem.W.Frag) : Addr := He.ga K "Ratio"
structure RF (K : PySem.W.Frag) (mg : Str → Option Value) : Prop where
  cl : Cls K (aR K)
  nT : NoAttr K (aR K) "_top"
  nB : NoAttr K (aR K) "_bottom"
  kc : PySem.W.findIn K (.ref (aR K)) "__class__" = some (some (.builtin "object.__class__"))
  sp : PySem.W.specialIn K (.builtin "object.__class__") "__get__" = some (some (.builtin "getset_descriptor.__get__"))
  tk : PySem.W.takesIn K (.builtin "object.__class__") = some true
  ob : PySem.W.mroIn K (aR K) (.type "object") = some true
  ki : PySem.W.kitOne K (.ref (aR K)) (.type "int") = some false
  gR : mg "Ratio" = some (.ref (aR K))
  isi : mg "isinstance" = none
  int : mg "int" = none
  bool : mg "bool" = none
/-- a Ratio at an address -/
def RatAt (K : PySem.W.Frag) (H : Hp) (p : Addr) (q : Rat) : Prop := ∃ dx, H p = some (.ins (aR K) dx [("_top", .int q.num), ("_bottom", .int q.den)])
theorem RatAt.same {K : PySem.W.Frag} {H H' : Hp} {p : Addr} {q : Rat} (h : RatAt K H p q) (k : Same H H') : RatAt K H' p q := by
  obtain ⟨dx, e⟩ := h
  exact ⟨dx, k _ _ e⟩
theorem RatAt.ty {K : PySem.W.Frag} {mg : Str → Option Value} {H : Hp} {p : Addr} {q : Rat} (T : RF K mg) (h : RatAt K H p q) : TyX K H (.ref p) (.ref (aR K)) := by
  obtain ⟨dx, e⟩ := h
  exact .base (.ins e T.cl T.kc T.sp T.tk T.ob)
/-- a NUMBER: a whole number, or a Ratio -/
def NumAt (K : PySem.W.Frag) (H : Hp) (x : V) (q : Rat) : Prop := (∃ i : Int, x = .int i ∧ q = (i : Rat)) ∨ ∃ p, x = .ref p ∧ RatAt K H p q
theorem NumAt.same {K : PySem.W.Frag} {H H' : Hp} {x : V} {q : Rat} (h : NumAt K H x q) (k : Same H H') : NumAt K H' x q := by
  rcases h with h | ⟨p, e, h⟩
  · exact .inl h
  · exact .inr ⟨p, e, h.same k⟩
section
variable {P : Program} {w : World} {K : PySem.W.Frag} {mg : Str → Option Value} {base : Heap}
/-! ### is_integer -/
def spIsInt (K : PySem.W.Frag) : Sp := fun vs H Q _ => ∃ (x : V) (t : Value) (b1 b2 : Bool), vs = [x] ∧ TyX K H x t ∧ PySem.W.kitOne K t (.type "int") = some b1 ∧ (b1 = true → PySem.W.kitOne K t (.type "bool") = some b2) ∧ Q (.bl (b1 && !b2)) H
theorem scIsInt : FnScope ["value"] ["value"] (defScope sIsInt) := ⟨rfl, rfl, rfl, by decide +kernel, rfl, by decide +kernel, by decide +kernel⟩
theorem ok_isInt {f : Addr} {fd : FuncData} (F : Fun K "is_integer" "is_integer" sIsInt f fd) (T : RF K mg) : FnOk P w K mg base CX0 1 f fd ["value"] (spIsInt K) := by
  refine F.ok scIsInt (fun vs H Q E h => ?_) (fun cdv A outer s H vs Q E hr h => ?_)
  · obtain ⟨x, t, b1, b2, rfl, _⟩ := h
    rfl
  · obtain ⟨x, t, b1, b2, rfl, ty, k1, k2, q⟩ := h
    refine ⟨_, pss_one (ps_ret (pe_and (pe_callB call_isi (by rfl) T.isi (by decide +kernel) (pa_cons (pv 0) (pa_cons (pe_bltn (v := .ty "int") (by rfl) T.int (by decide +kernel) rfl) pa_nil)))
      (pe_one (pe_not (pe_callB call_isi (by rfl) T.isi (by decide +kernel) (pa_cons (pv 0) (pa_cons (pe_bltn (v := .ty "bool") (by rfl) T.bool (by decide +kernel) rfl) pa_nil))))))), ?_⟩
    refine ⟨_, rfl, x, .ty "int", t, _, b1, rfl, .ty _, ty, k1, b1, rfl, ?_⟩
    cases b1 with
    | true => exact iteT ⟨_, rfl, x, .ty "bool", t, _, b2, rfl, .ty _, ty, k2 rfl, b2, rfl, q⟩
    | false => exact q
/-! ### is_number -/
def spIsNum (K : PySem.W.Frag) : Sp := fun vs H Q _ => ∃ (x : V) (q : Rat), vs = [x] ∧ NumAt K H x q ∧ Q (.bl true) H
theorem scIsNum : FnScope ["value"] ["value"] (defScope sIsNum) := ⟨rfl, rfl, rfl, by decide +kernel, rfl, by decide +kernel, by decide +kernel⟩
theorem ok_isNum {f fI : Addr} {fd fdI : FuncData} (F : Fun K "is_number" "is_number" sIsNum f fd) (T : RF K mg) (FI : Fun K "is_integer" "is_integer" sIsInt fI fdI) (gI : mg "is_integer" = some (.ref fI)) (bI : Binds K fdI ["value"] []) (kr : PySem.W.kitOne K (.type "int") (.ref (aR K)) = some false) :
    FnOk P w K mg base CX0 2 f fd ["value"] (spIsNum K) := by
  have GI : FnOk P w K mg base CX0 1 fI fdI ["value"] (spIsInt K) := ok_isInt FI T
  refine F.ok scIsNum (fun vs H Q E h => ?_) (fun cdv A outer s H vs Q E hr h => ?_)
  · obtain ⟨x, q, rfl, _⟩ := h
    rfl
  · obtain ⟨x, q, rfl, hx, k⟩ := h
    refine ⟨_, pss_one (ps_ret (pe_or (pe_callB call_isi (by rfl) T.isi (by decide +kernel) (pa_cons (pv 0) (pa_cons (pe_glob (v := .ref (aR K)) rfl T.gR rfl) pa_nil)))
      (pe_one (pe_call GI hr rfl gI FI.kp bI .nil pass0 (pa_cons (pv 0) pa_nil))))), ?_⟩
    rcases hx with ⟨i, rfl, rfl⟩ | ⟨p, rfl, hp⟩
    · refine ⟨_, rfl, .int i, .ref (aR K), .type "int", _, false, rfl, .own _, .base (.int i), kr, false, rfl, ?_⟩
      refine iteF ⟨_, rfl, .int i, .type "int", true, false, rfl, .base (.int i), kit_ty (by decide +kernel), fun _ => kit_ty (by decide +kernel), k⟩
    · exact ⟨_, rfl, .ref p, .ref (aR K), .ref (aR K), _, true, rfl, .own _, hp.ty T, (by unfold PySem.W.kitOne; rw [if_pos (beq_self_eq_true _)]), true, rfl, iteT k⟩
end
end K18
set_option maxHeartbeats 4000000
namespace K18
open PySem PySem.Spec PyProof.Rows L2 GL
theorem ps_never {X : Cx} {st : Stmt} : PS X st (fun _ _ _ => False) := ⟨fun pins s σ H D I h => h.elim⟩
theorem op_fdivZ {X : Cx} : OpR X (binaryOp .FloorDiv) (rI (fun _ j => j ≠ 0 ∧ j.natAbs.log2 < 9000) fun i j => .int (i.fdiv j)) :=
  opI fun i j t u s Q E hc q => floordiv_int hc.1 q (Or.inl (PyProof.noPylong_of_log2 hc.2))
theorem log2_lt {n k : Nat} (h : n < 2 ^ k) (hk : 0 < k) : n.log2 < k := by
  by_cases z : n = 0
  · subst z
    simpa using hk
  · exact (Nat.log2_lt z).mpr h
section
variable {P : Program} {w : World} {K : PySem.W.Frag} {mg : Str → Option Value} {base : Heap}
/-! ### Ratio.__init__ -/
def spRInit (K : PySem.W.Frag) : Sp := fun vs H Q _ => ∃ (a dx : Addr) (t b : Int), vs = [.ref a, .int t, .int b] ∧ b ≠ 0 ∧ b.natAbs < 2 ^ 9000 ∧ H a = some (.ins (aR K) dx []) ∧
  ∀ H', H' a = some (.ins (aR K) dx [("_top", .int (Rat.divInt t b).num), ("_bottom", .int (Rat.divInt t b).den)]) → (∀ c o, c ≠ a → H c = some o → H' c = some o) → Q .non H'
theorem scRInit : FnScope ["self", "top", "bottom", "common"] ["self", "top", "bottom"] (defScope (sRatio 0)) := ⟨rfl, rfl, rfl, by decide +kernel, rfl, by decide +kernel, by decide +kernel⟩
theorem ok_rInit {f fI : Addr} {fd fdI : FuncData} {dv : List V} (F : FunD K "__init__" "Ratio.__init__" (defArgs (sRatio 0)) (defBody (sRatio 0)) (defScope (sRatio 0)) dv [] f fd) (T : RF K mg) (FI : Fun K "is_integer" "is_integer" sIsInt fI fdI) (gI : mg "is_integer" = some (.ref fI)) (bI : Binds K fdI ["value"] []) (gG : mg "gcd" = some (.builtin "math.gcd")) :
    FnOk P w K mg base CX0 2 f fd ["self", "top", "bottom"] (spRInit K) := by
  have GI : FnOk P w K mg base CX0 1 fI fdI ["value"] (spIsInt K) := ok_isInt FI T
  refine F.ok scRInit (fun vs H Q E h => ?_) (fun cdv A outer s H vs Q E hr h => ?_)
  · obtain ⟨a, dx, t, b, rfl, _⟩ := h
    rfl
  · obtain ⟨a, dx, t, b, rfl, hb, hz, ea, k⟩ := h
    refine ⟨_, pss_cons (ps_if (pt_not (pt_val (pe_call GI hr rfl gI FI.kp bI .nil pass0 (pa_cons (pv 1) pa_nil)))) (pss_one ps_never) pss_nil)
      (pss_cons (ps_if (PW.pt (pw_or (pt_not (pt_val (pe_call GI hr rfl gI FI.kp bI .nil pass0 (pa_cons (pv 2) pa_nil)))) (pw_or1 (pt_cmpR op_eq (pv 2) pe_int (nomark _))))) (pss_one ps_never) pss_nil)
      (pss_cons (ps_set (i := 3) scRInit.nd rfl (Or.inl rfl) (pe_ifExp (pt_cmpR op_gt (pv 2) pe_int (nomark _)) (pe_callBfun cr_gcd rfl gG (pa_cons (pv 1) (pa_cons (pv 2) pa_nil))) (pe_un un_neg (pe_callBfun cr_gcd rfl gG (pa_cons (pv 1) (pa_cons (pv 2) pa_nil))))))
      (pss_cons (ps_fld (pv 0) (pe_op op_fdivZ (pv 1) (pv 3)) rfl) (pss_one (ps_fld (pv 0) (pe_op op_fdivZ (pv 2) (pv 3)) rfl))))), ?_⟩
    refine ⟨_, rfl, .int t, .type "int", true, false, rfl, .base (.int t), kit_ty (by decide +kernel), fun _ => kit_ty (by decide +kernel), true, rfl, ?_⟩
    refine iteF ?_
    refine ⟨_, rfl, .int b, .type "int", true, false, rfl, .base (.int b), kit_ty (by decide +kernel), fun _ => kit_ty (by decide +kernel), true, rfl, ?_⟩
    refine iteF ⟨_, rfl, rfl, _, rfl, ?_⟩
    have e0 : decide (V.int b = V.int 0) = false := decide_eq_false fun z => hb (by injection z)
    dsimp only
    rw [e0]
    refine iteF ?_
    have go : ∀ c : Int, c ≠ 0 → c.natAbs.log2 < 9000 → t.fdiv c = (Rat.divInt t b).num → b.fdiv c = ((Rat.divInt t b).den : Int) →
        tSeq (sFld K (tVar 0) (tOp (rI (fun _ j => j ≠ 0 ∧ j.natAbs.log2 < 9000) fun i j => .int (i.fdiv j)) (tVar 1) (tVar 3)) "_top") (sFld K (tVar 0) (tOp (rI (fun _ j => j ≠ 0 ∧ j.natAbs.log2 < 9000) fun i j => .int (i.fdiv j)) (tVar 2) (tVar 3)) "_bottom")
          { nx := fun _ H' => Q .non H', rt := Q } [some (.ref a), some (.int t), some (.int b), some (.int c)] H := by
      intro c c0 cl e1 e2
      refine ⟨_, rfl, _, rfl, _, _, rfl, rfl, ⟨c0, cl⟩, _, rfl, a, _, dx, _, rfl, ea, T.cl, T.nT, (by decide), ?_⟩
      refine ⟨_, rfl, _, rfl, _, _, rfl, rfl, ⟨c0, cl⟩, _, rfl, a, _, dx, _, rfl, upd_same, T.cl, T.nB, (by show 1 < 1000; decide), ?_⟩
      dsimp only
      rw [e1, e2]
      exact k _ upd_same fun c o ne e => by rw [upd_ne ne, upd_ne ne]; exact e
    have N := norm (t := t) hb
    have g0 : 0 < t.natAbs.gcd b.natAbs := Nat.gcd_pos_of_pos_right _ (Int.natAbs_pos.mpr hb)
    have gl : (t.natAbs.gcd b.natAbs).log2 < 9000 := log2_lt (Nat.lt_of_le_of_lt (Nat.gcd_le_right _ (Int.natAbs_pos.mpr hb)) hz) (by decide)
    refine ⟨_, rfl, _, _, rfl, rfl, _, rfl, ?_⟩
    refine ite2 (fun c => ?_) (fun c => ?_)
    · rw [if_pos (of_decide_eq_true c)] at N
      exact ⟨_, rfl, _, rfl, t, b, rfl, go _ (by omega) gl N.1 N.2⟩
    · rw [if_neg fun z => c (decide_eq_true z)] at N
      exact ⟨_, rfl, _, rfl, t, b, rfl, _, rfl, go _ (by omega) (by rw [Int.natAbs_neg]; exact gl) N.1 N.2⟩
end
end K18
set_option maxHeartbeats 4000000
namespace K18
open PySem PySem.Spec PyProof.Rows L2 GL
section
variable {P : Program} {w : World} {K : PySem.W.Frag} {mg : Str → Option Value} {base : Heap}
/-- Ratio.__init__ without a bottom -/
theorem rInit_binds {f : Addr} {fd : FuncData} {i : Int} (F : FunD K "__init__" "Ratio.__init__" (defArgs (sRatio 0)) (defBody (sRatio 0)) (defScope (sRatio 0)) [.int i] [] f fd) :
    ∃ d : Value, Vals [V.int i] [d] ∧ Binds K fd ["self", "top", "bottom"] [d] ∧ Binds K fd ["self", "top", "bottom"] [] := by
  obtain ⟨oc, od, dV, kV, doc, pm, an, cdv, ct, osl, rfl, lk, hcd, hD, hK⟩ := F.ex
  rcases hD with ⟨z, _⟩ | ⟨_, T, o, its, n, rfl, lT, hdata, hv⟩
  · cases z
  cases hv with
  | cons r0 rest =>
    cases rest
    rename_i d
    refine ⟨d, .cons r0 .nil, fun s us kin hl => ?_, fun s us kin hl => ?_⟩
    · have l2 : us.length = 2 := by
        rw [List.length_append] at hl
        exact Nat.succ.inj hl
      match us, l2 with
      | [a, b], _ => exact BindsTo.of_looks fun M => looks_items (its := #[d]) kin lT hdata (.of_pure rfl)
    · have l2 : us.length = 3 := by
        rw [List.append_nil] at hl
        exact hl
      match us, l2 with
      | [a, b, c], _ => exact BindsTo.of_looks fun M => looks_items (its := #[d]) kin lT hdata (.of_pure rfl)
end
end K18
set_option maxHeartbeats 4000000
namespace K18
open PySem PySem.Spec PyProof.Rows L2 GL
/-- Ratio(a, b), its parts at the end of the call -/
theorem made_rat {K : PySem.W.Frag} {H : Hp} {Q : VK} {E : XK} {x dx : Addr} {t b : Int} (hx : H x = none) (hd : H dx = none) (ne : dx ≠ x) (hb : b ≠ 0) (hz : b.natAbs < 2 ^ 9000) (k : ∀ p H', Same H H' → H p = none → RatAt K H' p (Rat.divInt t b) → Q (.ref p) H') :
    spRInit K [.ref x, .int t, .int b] (upd (upd H dx (.own x)) x (.ins (aR K) dx [])) (fun v H2 => v = .non ∧ Q (.ref x) H2) E :=
  ⟨x, dx, t, b, rfl, hb, hz, upd_same, fun H' e kp => ⟨rfl, k x H' (fun c o ec => kp c o (ne_of_none ec hx) (by rw [upd_ne (ne_of_none ec hx), upd_ne (ne_of_none ec hd)]; exact ec)) hx ⟨dx, e⟩⟩⟩
/-- the parts of Ratio that others call -/
structure RG (P : Program) (w : World) (K : PySem.W.Frag) (mg : Str → Option Value) (base : Heap) : Prop where
  T : RF K mg
  kr : PySem.W.kitOne K (.type "int") (.ref (aR K)) = some false
  isInt : ∃ f fd, FnOk P w K mg base CX0 1 f fd ["value"] (spIsInt K) ∧ mg "is_integer" = some (.ref f) ∧ Binds K fd ["value"] [] ∧ PySem.W.keepIn K (.ref f) = true
  mR : ∃ f fd d, Mk K (aR K) f ∧ FnOk P w K mg base CX0 2 f fd ["self", "top", "bottom"] (spRInit K) ∧ Vals [V.int 1] [d] ∧ Binds K fd ["self", "top", "bottom"] [d] ∧ Binds K fd ["self", "top", "bottom"] []
section
variable {P : Program} {w : World} {K : PySem.W.Frag} {mg : Str → Option Value} {base : Heap}
/-! ### Ratio.of -/
def spOf (K : PySem.W.Frag) : Sp := fun vs H Q _ => ∃ (x : V) (q : Rat), vs = [.ref (aR K), x] ∧ NumAt K H x q ∧ ∀ p H', Same H H' → RatAt K H' p q → Q (.ref p) H'
theorem scOf : FnScope ["cls", "number"] ["cls", "number"] (defScope (sRatio 1)) := ⟨rfl, rfl, rfl, by decide +kernel, rfl, by decide +kernel, by decide +kernel⟩
theorem ok_of {f : Addr} {fd : FuncData} (F : FunD K "of" "Ratio.of" (defArgs (sRatio 1)) (defBody (sRatio 1)) (defScope (sRatio 1)) [] [] f fd) (G : RG P w K mg base) : FnOk P w K mg base CX0 4 f fd ["cls", "number"] (spOf K) := by
  obtain ⟨fR, fdR, d, MR, GR, vd, bR, _⟩ := G.mR
  have T := G.T
  refine F.ok scOf (fun vs H Q E h => ?_) (fun cdv A outer s H vs Q E hr h => ?_)
  · obtain ⟨x, q, rfl, _⟩ := h
    rfl
  · obtain ⟨x, q, rfl, hx, k⟩ := h
    refine ⟨_, pss_cons (ps_if (pt_val (pe_callB call_isi (by rfl) T.isi (by decide +kernel) (pa_cons (pv 1) (pa_cons (pe_glob (v := .ref (aR K)) rfl T.gR rfl) pa_nil)))) (pss_one (ps_ret (pv 1))) pss_nil)
      (pss_one (ps_ret (pe_make MR GR hr rfl T.gR bR vd pass0 (pa_cons (pv 1) pa_nil)))), ?_⟩
    rcases hx with ⟨i, rfl, rfl⟩ | ⟨p, rfl, hp⟩
    · refine ⟨_, rfl, .int i, .ref (aR K), .type "int", _, false, rfl, .own _, .base (.int i), G.kr, false, rfl, ?_⟩
      refine iteF ⟨_, rfl, fun x dx hx hd ne => ?_⟩
      refine made_rat hx hd ne (by decide) (by show 1 < 2 ^ 9000; exact Nat.one_lt_two_pow (by decide)) fun p H' kp _ r => k p H' kp ?_
      have e : Rat.divInt i 1 = (i : Rat) := by
        have := Rat.num_divInt_den (i : Rat)
        rw [Rat.num_intCast, Rat.den_intCast] at this
        exact this
      rw [← e]
      exact r
    · exact ⟨_, rfl, .ref p, .ref (aR K), .ref (aR K), _, true, rfl, .own _, hp.ty T, (by unfold PySem.W.kitOne; rw [if_pos (beq_self_eq_true _)]), true, rfl, iteT ⟨_, rfl, k p _ (fun _ _ e => e) hp⟩⟩
end
end K18
set_option maxHeartbeats 4000000
namespace K18
open PySem PySem.Spec PyProof.Rows L2 GL
theorem fnR_of {P : Program} {w : World} {K : PySem.W.Frag} {mg : Str → Option Value} {base : Heap} {CX : CXT} {k : Nat} {f : Addr} {fd : FuncData} {ps : List Str} {sp : Sp} (F : FnOk P w K mg base CX k f fd ps sp) (hb : Binds K fd ps []) : FnR P w K mg base CX k f sp := by
  intro A outer s H us vs Q E hr e0 rv hsp
  have inS : K.In s.heap := e0.mod.kin.keeps fun b o e => (e0.bs b o e).1
  have hl : us.length = ps.length := rv.length.symm.trans (F.len _ _ _ _ hsp)
  have b := hb s us inS (by rw [List.append_nil]; exact hl)
  rw [List.append_nil] at b
  exact F.run A outer s H ⟨us, []⟩ us vs Q E hr e0 b rv hsp
/-- how long the parts are -/
def Sz (n : Nat) (q : Rat) : Prop := q.num.natAbs < 2 ^ n ∧ q.den < 2 ^ n
theorem Sz.mono {n m : Nat} {q : Rat} (h : Sz n q) (k : n ≤ m) : Sz m q := ⟨Nat.lt_of_lt_of_le h.1 (Nat.pow_le_pow_right (by decide) k), Nat.lt_of_lt_of_le h.2 (Nat.pow_le_pow_right (by decide) k)⟩
theorem Sz.den {n : Nat} {q : Rat} (h : Sz n q) : (q.den : Int).natAbs < 2 ^ n := by rw [Int.natAbs_natCast]; exact h.2
def rBelow (q r : Rat) : Bool := decide (q.num * (r.den : Int) < r.num * (q.den : Int))
def rOver (q r : Rat) : Rat := Rat.divInt (q.num * (r.den : Int)) ((q.den : Int) * r.num)
def rAdd (q r : Rat) : Rat := Rat.divInt (q.num * (r.den : Int) + r.num * (q.den : Int)) ((q.den : Int) * (r.den : Int))
def rSub (q r : Rat) : Rat := Rat.divInt (q.num * (r.den : Int) - r.num * (q.den : Int)) ((q.den : Int) * (r.den : Int))
def rMul (q r : Rat) : Rat := Rat.divInt (q.num * r.num) ((q.den : Int) * (r.den : Int))
def rNeg (q : Rat) : Rat := Rat.divInt (-q.num) (q.den : Int)
theorem mul_lt {i j : Int} {n m : Nat} (h : i.natAbs < 2 ^ n) (k : j.natAbs < 2 ^ m) : (i * j).natAbs < 2 ^ (n + m) := by
  rw [Int.natAbs_mul, Nat.pow_add]
  exact Nat.mul_lt_mul'' h k
structure RH (P : Program) (w : World) (K : PySem.W.Frag) (mg : Str → Option Value) (base : Heap) : Prop where
  G : RG P w K mg base
  of : ∃ mc p f, ClX.CRead K (aR K) mc ∧ ClX.CMet K (aR K) mc "of" p f ∧ FnR P w K mg base CX0 4 f (spOf K)
section
variable {P : Program} {w : World} {K : PySem.W.Frag} {mg : Str → Option Value} {base : Heap}
/-! ### is_below -/
def spBelow (K : PySem.W.Frag) : Sp := fun vs H Q _ => ∃ (a : Addr) (y : V) (q r : Rat), vs = [.ref a, y] ∧ RatAt K H a q ∧ NumAt K H y r ∧ Sz 100000 q ∧ Sz 100000 r ∧ ∀ H', Same H H' → Q (.bl (rBelow q r)) H'
theorem scBelow : FnScope ["self", "other", "right"] ["self", "other"] (defScope (sRatio 7)) := ⟨rfl, rfl, rfl, by decide +kernel, rfl, by decide +kernel, by decide +kernel⟩
theorem ok_below {f : Addr} {fd : FuncData} (F : FunD K "is_below" "Ratio.is_below" (defArgs (sRatio 7)) (defBody (sRatio 7)) (defScope (sRatio 7)) [] [] f fd) (R : RH P w K mg base) : FnOk P w K mg base CX0 5 f fd ["self", "other"] (spBelow K) := by
  obtain ⟨mc, pp, fo, cr, cm, GO⟩ := R.of
  have T := R.G.T
  refine F.ok scBelow (fun vs H Q E h => ?_) (fun cdv A outer s H vs Q E hr h => ?_)
  · obtain ⟨a, y, q, r, rfl, _⟩ := h
    rfl
  · obtain ⟨a, y, q, r, rfl, ha, hy, sq, sr, k⟩ := h
    refine ⟨_, pss_cons (ps_set (i := 2) scBelow.nd rfl (Or.inl rfl) (ClX.pe_cmeth (pe_glob (v := .ref (aR K)) rfl T.gR rfl) cr cm GO hr pass0 (pa_cons (pv 1) pa_nil)))
      (pss_one (ps_ret (pe_cmpR op_lt (pe_op op_mulW (pe_fld (pv 0) rfl) (pe_fld (pv 2) rfl)) (pe_op op_mulW (pe_fld (pv 2) rfl) (pe_fld (pv 0) rfl)) (nomark _)))), ?_⟩
    refine ⟨rfl, _, rfl, y, r, rfl, hy, fun p H' kp hp => ?_⟩
    obtain ⟨dx, ea⟩ := ha.same kp
    obtain ⟨dy, ep⟩ := hp
    refine ⟨_, rfl, a, _, dx, _, _, rfl, ea, T.cl, T.nT, rfl, _, rfl, p, _, dy, _, _, rfl, ep, T.cl, T.nB, rfl, _, _, rfl, rfl, wide_mul sq.1 sr.den (by decide) (by decide) (by decide), ?_⟩
    refine ⟨_, rfl, p, _, dy, _, _, rfl, ep, T.cl, T.nT, rfl, _, rfl, a, _, dx, _, _, rfl, ea, T.cl, T.nB, rfl, _, _, rfl, rfl, wide_mul sr.1 sq.den (by decide) (by decide) (by decide), ?_⟩
    exact ⟨_, _, rfl, rfl, k H' kp⟩
end
end K18
set_option maxHeartbeats 4000000
namespace K18
open PySem PySem.Spec PyProof.Rows L2 GL
theorem divInt_sz {t b : Int} {n : Nat} (hb : b ≠ 0) (ht : t.natAbs < 2 ^ n) (hz : b.natAbs < 2 ^ n) : Sz n (Rat.divInt t b) := by
  constructor
  · rw [Rat.num_divInt]
    refine Nat.lt_of_le_of_lt ?_ ht
    rw [Int.natAbs_ediv_of_dvd]
    · refine Nat.le_trans (Nat.div_le_self _ _) ?_
      rw [Int.natAbs_mul, Int.natAbs_sign_of_ne_zero hb, Nat.one_mul]
      exact Nat.le_refl _
    · exact Int.dvd_mul_of_dvd_right (Int.gcd_dvd_right _ _)
  · rw [Rat.den_divInt, if_neg hb]
    exact Nat.lt_of_le_of_lt (Nat.div_le_self _ _) hz
theorem den_ne (q : Rat) : (q.den : Int) ≠ 0 := by
  have := q.den_nz
  omega
section
variable {P : Program} {w : World} {K : PySem.W.Frag} {mg : Str → Option Value} {base : Heap}
/-! ### over -/
def spBin (K : PySem.W.Frag) (g : Rat → Rat → Rat) (C : Rat → Rat → Prop) : Sp := fun vs H Q _ => ∃ (a : Addr) (y : V) (q r : Rat), vs = [.ref a, y] ∧ RatAt K H a q ∧ NumAt K H y r ∧ Sz 4000 q ∧ Sz 4000 r ∧ C q r ∧ ∀ p H', Same H H' → RatAt K H' p (g q r) → Q (.ref p) H'
theorem scOver : FnScope ["self", "other", "right"] ["self", "other"] (defScope (sRatio 8)) := ⟨rfl, rfl, rfl, by decide +kernel, rfl, by decide +kernel, by decide +kernel⟩
theorem ok_over {f : Addr} {fd : FuncData} (F : FunD K "over" "Ratio.over" (defArgs (sRatio 8)) (defBody (sRatio 8)) (defScope (sRatio 8)) [] [] f fd) (R : RH P w K mg base) : FnOk P w K mg base CX0 5 f fd ["self", "other"] (spBin K rOver fun _ r => r.num ≠ 0) := by
  obtain ⟨mc, pp, fo, cr, cm, GO⟩ := R.of
  obtain ⟨fR, fdR, d, MR, GR, vd, _, bR⟩ := R.G.mR
  have T := R.G.T
  refine F.ok scOver (fun vs H Q E h => ?_) (fun cdv A outer s H vs Q E hr h => ?_)
  · obtain ⟨a, y, q, r, rfl, _⟩ := h
    rfl
  · obtain ⟨a, y, q, r, rfl, ha, hy, sq, sr, r0, k⟩ := h
    refine ⟨_, pss_cons (ps_set (i := 2) scOver.nd rfl (Or.inl rfl) (ClX.pe_cmeth (pe_glob (v := .ref (aR K)) rfl T.gR rfl) cr cm GO hr pass0 (pa_cons (pv 1) pa_nil)))
      (pss_cons (ps_if (pt_cmpR op_eq (pe_fld (pv 2) rfl) pe_int (nomark _)) (pss_one ps_never) pss_nil)
      (pss_one (ps_ret (pe_make MR GR (hr.mono (by decide)) rfl T.gR bR .nil pass0 (pa_cons (pe_op op_mulW (pe_fld (pv 0) rfl) (pe_fld (pv 2) rfl)) (pa_cons (pe_op op_mulW (pe_fld (pv 0) rfl) (pe_fld (pv 2) rfl)) pa_nil)))))), ?_⟩
    refine ⟨rfl, _, rfl, y, r, rfl, hy, fun p H' kp hp => ?_⟩
    obtain ⟨dx, ea⟩ := ha.same kp
    obtain ⟨dy, ep⟩ := hp
    refine ⟨_, rfl, p, _, dy, _, _, rfl, ep, T.cl, T.nT, rfl, rfl, _, rfl, ?_⟩
    have e0 : decide (V.int r.num = V.int 0) = false := decide_eq_false fun z => r0 (by injection z)
    dsimp only
    rw [e0]
    refine iteF ?_
    refine ⟨_, rfl, a, _, dx, _, _, rfl, ea, T.cl, T.nT, rfl, _, rfl, p, _, dy, _, _, rfl, ep, T.cl, T.nB, rfl, _, _, rfl, rfl, wide_mul sq.1 sr.den (by decide) (by decide) (by decide), ?_⟩
    refine ⟨_, rfl, a, _, dx, _, _, rfl, ea, T.cl, T.nB, rfl, _, rfl, p, _, dy, _, _, rfl, ep, T.cl, T.nT, rfl, _, _, rfl, rfl, wide_mul sq.den sr.1 (by decide) (by decide) (by decide), ?_⟩
    intro x dz hx hd ne
    have b0 : (q.den : Int) * r.num ≠ 0 := Int.mul_ne_zero (den_ne q) r0
    exact made_rat hx hd ne b0 (Nat.lt_of_lt_of_le (mul_lt sq.den sr.1) (Nat.pow_le_pow_right (by decide) (by decide))) fun p2 H2 kp2 _ hr2 => k p2 H2 (kp.trans kp2) hr2
/-! ### __add__ -/
theorem scAdd : FnScope ["self", "other", "right"] ["self", "other"] (defScope (sRatio 9)) := ⟨rfl, rfl, rfl, by decide +kernel, rfl, by decide +kernel, by decide +kernel⟩
theorem ok_rAdd {f : Addr} {fd : FuncData} (F : FunD K "__add__" "Ratio.__add__" (defArgs (sRatio 9)) (defBody (sRatio 9)) (defScope (sRatio 9)) [] [] f fd) (R : RH P w K mg base) : FnOk P w K mg base CX0 5 f fd ["self", "other"] (spBin K rAdd fun _ _ => True) := by
  obtain ⟨mc, pp, fo, cr, cm, GO⟩ := R.of
  obtain ⟨fR, fdR, d, MR, GR, vd, _, bR⟩ := R.G.mR
  have T := R.G.T
  refine F.ok scAdd (fun vs H Q E h => ?_) (fun cdv A outer s H vs Q E hr h => ?_)
  · obtain ⟨a, y, q, r, rfl, _⟩ := h
    rfl
  · obtain ⟨a, y, q, r, rfl, ha, hy, sq, sr, _, k⟩ := h
    refine ⟨_, pss_cons (ps_set (i := 2) scAdd.nd rfl (Or.inl rfl) (ClX.pe_cmeth (pe_glob (v := .ref (aR K)) rfl T.gR rfl) cr cm GO hr pass0 (pa_cons (pv 1) pa_nil)))
      (pss_one (ps_ret (pe_make MR GR (hr.mono (by decide)) rfl T.gR bR .nil pass0 (pa_cons (pe_op op_add (pe_op op_mulW (pe_fld (pv 0) rfl) (pe_fld (pv 2) rfl)) (pe_op op_mulW (pe_fld (pv 2) rfl) (pe_fld (pv 0) rfl))) (pa_cons (pe_op op_mulW (pe_fld (pv 0) rfl) (pe_fld (pv 2) rfl)) pa_nil))))), ?_⟩
    refine ⟨rfl, _, rfl, y, r, rfl, hy, fun p H' kp hp => ?_⟩
    obtain ⟨dx, ea⟩ := ha.same kp
    obtain ⟨dy, ep⟩ := hp
    refine ⟨_, rfl, a, _, dx, _, _, rfl, ea, T.cl, T.nT, rfl, _, rfl, p, _, dy, _, _, rfl, ep, T.cl, T.nB, rfl, _, _, rfl, rfl, wide_mul sq.1 sr.den (by decide) (by decide) (by decide), ?_⟩
    refine ⟨_, rfl, p, _, dy, _, _, rfl, ep, T.cl, T.nT, rfl, _, rfl, a, _, dx, _, _, rfl, ea, T.cl, T.nB, rfl, _, _, rfl, rfl, wide_mul sr.1 sq.den (by decide) (by decide) (by decide), ?_⟩
    refine ⟨_, _, rfl, rfl, ?_⟩
    refine ⟨_, rfl, a, _, dx, _, _, rfl, ea, T.cl, T.nB, rfl, _, rfl, p, _, dy, _, _, rfl, ep, T.cl, T.nB, rfl, _, _, rfl, rfl, wide_mul sq.den sr.den (by decide) (by decide) (by decide), ?_⟩
    intro x dz hx hd ne
    have b0 : (q.den : Int) * (r.den : Int) ≠ 0 := Int.mul_ne_zero (den_ne q) (den_ne r)
    exact made_rat hx hd ne b0 (Nat.lt_of_lt_of_le (mul_lt sq.den sr.den) (Nat.pow_le_pow_right (by decide) (by decide))) fun p2 H2 kp2 _ hr2 => k p2 H2 (kp.trans kp2) hr2
/-! ### __sub__ -/
theorem scSub : FnScope ["self", "other", "right"] ["self", "other"] (defScope (sRatio 10)) := ⟨rfl, rfl, rfl, by decide +kernel, rfl, by decide +kernel, by decide +kernel⟩
theorem ok_rSub {f : Addr} {fd : FuncData} (F : FunD K "__sub__" "Ratio.__sub__" (defArgs (sRatio 10)) (defBody (sRatio 10)) (defScope (sRatio 10)) [] [] f fd) (R : RH P w K mg base) : FnOk P w K mg base CX0 5 f fd ["self", "other"] (spBin K rSub fun _ _ => True) := by
  obtain ⟨mc, pp, fo, cr, cm, GO⟩ := R.of
  obtain ⟨fR, fdR, d, MR, GR, vd, _, bR⟩ := R.G.mR
  have T := R.G.T
  refine F.ok scSub (fun vs H Q E h => ?_) (fun cdv A outer s H vs Q E hr h => ?_)
  · obtain ⟨a, y, q, r, rfl, _⟩ := h
    rfl
  · obtain ⟨a, y, q, r, rfl, ha, hy, sq, sr, _, k⟩ := h
    refine ⟨_, pss_cons (ps_set (i := 2) scSub.nd rfl (Or.inl rfl) (ClX.pe_cmeth (pe_glob (v := .ref (aR K)) rfl T.gR rfl) cr cm GO hr pass0 (pa_cons (pv 1) pa_nil)))
      (pss_one (ps_ret (pe_make MR GR (hr.mono (by decide)) rfl T.gR bR .nil pass0 (pa_cons (pe_op op_sub (pe_op op_mulW (pe_fld (pv 0) rfl) (pe_fld (pv 2) rfl)) (pe_op op_mulW (pe_fld (pv 2) rfl) (pe_fld (pv 0) rfl))) (pa_cons (pe_op op_mulW (pe_fld (pv 0) rfl) (pe_fld (pv 2) rfl)) pa_nil))))), ?_⟩
    refine ⟨rfl, _, rfl, y, r, rfl, hy, fun p H' kp hp => ?_⟩
    obtain ⟨dx, ea⟩ := ha.same kp
    obtain ⟨dy, ep⟩ := hp
    refine ⟨_, rfl, a, _, dx, _, _, rfl, ea, T.cl, T.nT, rfl, _, rfl, p, _, dy, _, _, rfl, ep, T.cl, T.nB, rfl, _, _, rfl, rfl, wide_mul sq.1 sr.den (by decide) (by decide) (by decide), ?_⟩
    refine ⟨_, rfl, p, _, dy, _, _, rfl, ep, T.cl, T.nT, rfl, _, rfl, a, _, dx, _, _, rfl, ea, T.cl, T.nB, rfl, _, _, rfl, rfl, wide_mul sr.1 sq.den (by decide) (by decide) (by decide), ?_⟩
    refine ⟨_, _, rfl, rfl, ?_⟩
    refine ⟨_, rfl, a, _, dx, _, _, rfl, ea, T.cl, T.nB, rfl, _, rfl, p, _, dy, _, _, rfl, ep, T.cl, T.nB, rfl, _, _, rfl, rfl, wide_mul sq.den sr.den (by decide) (by decide) (by decide), ?_⟩
    intro x dz hx hd ne
    have b0 : (q.den : Int) * (r.den : Int) ≠ 0 := Int.mul_ne_zero (den_ne q) (den_ne r)
    exact made_rat hx hd ne b0 (Nat.lt_of_lt_of_le (mul_lt sq.den sr.den) (Nat.pow_le_pow_right (by decide) (by decide))) fun p2 H2 kp2 _ hr2 => k p2 H2 (kp.trans kp2) hr2
/-! ### __mul__ -/
theorem scMul : FnScope ["self", "other", "right"] ["self", "other"] (defScope (sRatio 11)) := ⟨rfl, rfl, rfl, by decide +kernel, rfl, by decide +kernel, by decide +kernel⟩
theorem ok_rMul {f : Addr} {fd : FuncData} (F : FunD K "__mul__" "Ratio.__mul__" (defArgs (sRatio 11)) (defBody (sRatio 11)) (defScope (sRatio 11)) [] [] f fd) (R : RH P w K mg base) : FnOk P w K mg base CX0 5 f fd ["self", "other"] (spBin K rMul fun _ _ => True) := by
  obtain ⟨mc, pp, fo, cr, cm, GO⟩ := R.of
  obtain ⟨fR, fdR, d, MR, GR, vd, _, bR⟩ := R.G.mR
  have T := R.G.T
  refine F.ok scMul (fun vs H Q E h => ?_) (fun cdv A outer s H vs Q E hr h => ?_)
  · obtain ⟨a, y, q, r, rfl, _⟩ := h
    rfl
  · obtain ⟨a, y, q, r, rfl, ha, hy, sq, sr, _, k⟩ := h
    refine ⟨_, pss_cons (ps_set (i := 2) scMul.nd rfl (Or.inl rfl) (ClX.pe_cmeth (pe_glob (v := .ref (aR K)) rfl T.gR rfl) cr cm GO hr pass0 (pa_cons (pv 1) pa_nil)))
      (pss_one (ps_ret (pe_make MR GR (hr.mono (by decide)) rfl T.gR bR .nil pass0 (pa_cons (pe_op op_mulW (pe_fld (pv 0) rfl) (pe_fld (pv 2) rfl)) (pa_cons (pe_op op_mulW (pe_fld (pv 0) rfl) (pe_fld (pv 2) rfl)) pa_nil))))), ?_⟩
    refine ⟨rfl, _, rfl, y, r, rfl, hy, fun p H' kp hp => ?_⟩
    obtain ⟨dx, ea⟩ := ha.same kp
    obtain ⟨dy, ep⟩ := hp
    refine ⟨_, rfl, a, _, dx, _, _, rfl, ea, T.cl, T.nT, rfl, _, rfl, p, _, dy, _, _, rfl, ep, T.cl, T.nT, rfl, _, _, rfl, rfl, wide_mul sq.1 sr.1 (by decide) (by decide) (by decide), ?_⟩
    refine ⟨_, rfl, a, _, dx, _, _, rfl, ea, T.cl, T.nB, rfl, _, rfl, p, _, dy, _, _, rfl, ep, T.cl, T.nB, rfl, _, _, rfl, rfl, wide_mul sq.den sr.den (by decide) (by decide) (by decide), ?_⟩
    intro x dz hx hd ne
    have b0 : (q.den : Int) * (r.den : Int) ≠ 0 := Int.mul_ne_zero (den_ne q) (den_ne r)
    exact made_rat hx hd ne b0 (Nat.lt_of_lt_of_le (mul_lt sq.den sr.den) (Nat.pow_le_pow_right (by decide) (by decide))) fun p2 H2 kp2 _ hr2 => k p2 H2 (kp.trans kp2) hr2
end
end K18
set_option maxHeartbeats 4000000
namespace K18
open PySem PySem.Spec PyProof.Rows L2 GL
section
variable {P : Program} {w : World} {K : PySem.W.Frag} {mg : Str → Option Value} {base : Heap}
/-! ### __neg__ -/
def spNeg (K : PySem.W.Frag) : Sp := fun vs H Q _ => ∃ (a : Addr) (q : Rat), vs = [.ref a] ∧ RatAt K H a q ∧ Sz 4000 q ∧ ∀ p H', Same H H' → RatAt K H' p (rNeg q) → Q (.ref p) H'
theorem scNeg : FnScope ["self"] ["self"] (defScope (sRatio 12)) := ⟨rfl, rfl, rfl, by decide +kernel, rfl, by decide +kernel, by decide +kernel⟩
theorem ok_rNeg {f : Addr} {fd : FuncData} (F : FunD K "__neg__" "Ratio.__neg__" (defArgs (sRatio 12)) (defBody (sRatio 12)) (defScope (sRatio 12)) [] [] f fd) (G : RG P w K mg base) : FnOk P w K mg base CX0 4 f fd ["self"] (spNeg K) := by
  obtain ⟨fR, fdR, d, MR, GR, vd, _, bR⟩ := G.mR
  have T := G.T
  refine F.ok scNeg (fun vs H Q E h => ?_) (fun cdv A outer s H vs Q E hr h => ?_)
  · obtain ⟨a, q, rfl, _⟩ := h
    rfl
  · obtain ⟨a, q, rfl, ⟨dx, ea⟩, sq, k⟩ := h
    refine ⟨_, pss_one (ps_ret (pe_make MR GR hr rfl T.gR bR .nil pass0 (pa_cons (pe_un un_neg (pe_fld (pv 0) rfl)) (pa_cons (pe_fld (pv 0) rfl) pa_nil)))), ?_⟩
    refine ⟨_, rfl, a, _, dx, _, _, rfl, ea, T.cl, T.nT, rfl, _, rfl, _, rfl, a, _, dx, _, _, rfl, ea, T.cl, T.nB, rfl, ?_⟩
    intro x dz hx hd ne
    exact made_rat hx hd ne (den_ne q) (Nat.lt_of_lt_of_le sq.den (Nat.pow_le_pow_right (by decide) (by decide))) fun p2 H2 kp2 _ hr2 => k p2 H2 kp2 hr2
/-! ### __eq__ -/
def spREq (K : PySem.W.Frag) : Sp := fun vs H Q _ => ∃ (a : Addr) (y : V) (q : Rat), vs = [.ref a, y] ∧ RatAt K H a q ∧
  ((∃ b r, y = .ref b ∧ RatAt K H b r ∧ Q (.bl (decide (q = r))) H) ∨ ∃ t, TyX K H y t ∧ PySem.W.kitOne K t (.ref (aR K)) = some false ∧ Q (.bl false) H)
theorem scREq : FnScope ["self", "other"] ["self", "other"] (defScope (sRatio 13)) := ⟨rfl, rfl, rfl, by decide +kernel, rfl, by decide +kernel, by decide +kernel⟩
theorem ok_rEq {f : Addr} {fd : FuncData} (F : FunD K "__eq__" "Ratio.__eq__" (defArgs (sRatio 13)) (defBody (sRatio 13)) (defScope (sRatio 13)) [] [] f fd) (T : RF K mg) : FnOk P w K mg base CX0 1 f fd ["self", "other"] (spREq K) := by
  refine F.ok scREq (fun vs H Q E h => ?_) (fun cdv A outer s H vs Q E hr h => ?_)
  · obtain ⟨a, y, q, rfl, _⟩ := h
    rfl
  · obtain ⟨a, y, q, rfl, ha, h⟩ := h
    refine ⟨_, pss_one (ps_ret (pe_and (pe_callB call_isi (by rfl) T.isi (by decide +kernel) (pa_cons (pv 1) (pa_cons (pe_glob (v := .ref (aR K)) rfl T.gR rfl) pa_nil)))
      (pe_and (pe_cmpR op_eq (pe_fld (pv 0) rfl) (pe_fld (pv 1) rfl) (nomark _)) (pe_one (pe_cmpR op_eq (pe_fld (pv 0) rfl) (pe_fld (pv 1) rfl) (nomark _)))))), ?_⟩
    rcases h with ⟨b, r, rfl, hb, k⟩ | ⟨t, ty, kt, k⟩
    · refine ⟨_, rfl, .ref b, .ref (aR K), .ref (aR K), _, true, rfl, .own _, hb.ty T, (by unfold PySem.W.kitOne; rw [if_pos (beq_self_eq_true _)]), true, rfl, iteT ?_⟩
      obtain ⟨dx, ea⟩ := ha
      obtain ⟨dy, eb⟩ := hb
      refine ⟨_, rfl, a, _, dx, _, _, rfl, ea, T.cl, T.nT, rfl, _, rfl, b, _, dy, _, _, rfl, eb, T.cl, T.nT, rfl, rfl, _, rfl, ?_⟩
      refine ite2 (fun c => ?_) (fun c => ?_)
      · have c1 : q.num = r.num := by
          have := of_decide_eq_true c
          injection this
        refine ⟨_, rfl, a, _, dx, _, _, rfl, ea, T.cl, T.nB, rfl, _, rfl, b, _, dy, _, _, rfl, eb, T.cl, T.nB, rfl, rfl, ?_⟩
        have e : decide (V.int (q.den : Int) = V.int (r.den : Int)) = decide (q = r) := by
          rw [decide_eq_decide]
          constructor
          · intro z
            injection z with z
            exact Rat.ext c1 (by omega)
          · rintro rfl
            rfl
        rw [e]
        exact k
      · have e : decide (q = r) = false := by
          refine decide_eq_false ?_
          rintro rfl
          exact c (decide_eq_true rfl)
        rw [e] at k
        exact k
    · exact ⟨_, rfl, y, .ref (aR K), t, _, false, rfl, .own _, ty, kt, false, rfl, iteF k⟩
/-! ### sign -/
end
end K18
set_option maxHeartbeats 4000000
namespace K18
open PySem PySem.Spec PyProof.Rows L2 GL
abbrev sIsCut : Stmt := tp 17
abbrev sIsStretch : Stmt := tp 18
abbrev sRatioCut : Stmt := tp 19
abbrev sIsAbove : Stmt := tp 20
abbrev sIsAhead : Stmt := tp 21
abbrev sPrecedes : Stmt := tp 22
/-- more parts of Ratio -/
structure RI (P : Program) (w : World) (K : PySem.W.Frag) (mg : Str → Option Value) (base : Heap) : Prop where
  R : RH P w K mg base
  isNum : ∃ f fd, FnOk P w K mg base CX0 2 f fd ["value"] (spIsNum K) ∧ mg "is_number" = some (.ref f) ∧ Binds K fd ["value"] [] ∧ PySem.W.keepIn K (.ref f) = true
  below : ∃ f fd, Meth K (aR K) "is_below" f ∧ FnOk P w K mg base CX0 5 f fd ["self", "other"] (spBelow K) ∧ Binds K fd ["self", "other"] []
  eq : ∃ f, OwnEq K (aR K) f ∧ FnR P w K mg base CX0 1 f (spREq K)
  len : mg "len" = none
  tuple : mg "tuple" = none
/-- a cut: a NUMBER, and whether it is just above -/
def CutAt (K : PySem.W.Frag) (H : Hp) (x : V) (q : Rat) (b : Bool) : Prop := ∃ c v, x = .ref c ∧ H c = some (.tup [v, .bl b]) ∧ NumAt K H v q
theorem CutAt.same {K : PySem.W.Frag} {H H' : Hp} {x : V} {q : Rat} {b : Bool} (h : CutAt K H x q b) (k : Same H H') : CutAt K H' x q b := by
  obtain ⟨c, v, e, hc, hv⟩ := h
  exact ⟨c, v, e, k _ _ hc, hv.same k⟩
section
variable {P : Program} {w : World} {K : PySem.W.Frag} {mg : Str → Option Value} {base : Heap}
/-! ### is_cut -/
def spIsCut (K : PySem.W.Frag) : Sp := fun vs H Q _ => ∃ (x : V) (q : Rat) (b : Bool), vs = [x] ∧ CutAt K H x q b ∧ Q (.bl true) H
theorem scIsCut : FnScope ["value"] ["value"] (defScope sIsCut) := ⟨rfl, rfl, rfl, by decide +kernel, rfl, by decide +kernel, by decide +kernel⟩
theorem ok_isCut {f : Addr} {fd : FuncData} (F : Fun K "is_cut" "is_cut" sIsCut f fd) (I : RI P w K mg base) : FnOk P w K mg base CX0 3 f fd ["value"] (spIsCut K) := by
  obtain ⟨fN, fdN, GN, gN, bN, kN⟩ := I.isNum
  have T := I.R.G.T
  refine F.ok scIsCut (fun vs H Q E h => ?_) (fun cdv A outer s H vs Q E hr h => ?_)
  · obtain ⟨x, q, b, rfl, _⟩ := h
    rfl
  · obtain ⟨x, q, b, rfl, ⟨c, v, rfl, hc, hv⟩, k⟩ := h
    refine ⟨_, pss_one (ps_ret (pe_and (pe_callB call_isi (by rfl) T.isi (by decide +kernel) (pa_cons (pv 0) (pa_cons (pe_bltn (v := .ty "tuple") (by rfl) I.tuple (by decide +kernel) rfl) pa_nil)))
      (pe_and (pe_cmpR op_eq (pe_callB call_len_seq (by rfl) I.len PySem.boot_len (pa_cons (pv 0) pa_nil)) pe_int (nomark _))
      (pe_and (pe_call GN hr rfl gN kN bN .nil pass0 (pa_cons (pe_ix ix_tup (pv 0) pe_int (fun _ _ => rfl)) pa_nil))
      (pe_one (pe_callB call_isi (by rfl) T.isi (by decide +kernel) (pa_cons (pe_ix ix_tup (pv 0) pe_int (fun _ _ => rfl)) (pa_cons (pe_bltn (v := .ty "bool") (by rfl) T.bool (by decide +kernel) rfl) pa_nil)))))))), ?_⟩
    refine ⟨_, rfl, .ref c, .ty "tuple", .type "tuple", _, true, rfl, .ty _, .base (.tup hc), kit_ty (by decide +kernel), true, rfl, iteT ?_⟩
    refine ⟨_, rfl, c, _, rfl, .inr (SqT.of hc), rfl, _, rfl, iteT ?_⟩
    refine ⟨_, rfl, c, _, _, v, rfl, rfl, SqT.of hc, rfl, v, q, rfl, hv, true, rfl, iteT ?_⟩
    exact ⟨_, rfl, c, _, _, .bl b, rfl, rfl, SqT.of hc, rfl, .bl b, .ty "bool", .type "bool", _, true, rfl, .ty _, .base (.bl b), kit_ty (by decide +kernel), k⟩
/-! ### ratio_cut -/
def spRatioCut (K : PySem.W.Frag) : Sp := fun vs H Q _ => ∃ (x : V) (q : Rat) (b : Bool), vs = [x] ∧ CutAt K H x q b ∧ ∀ c p H', Same H H' → H' c = some (.tup [.ref p, .bl b]) → RatAt K H' p q → Q (.ref c) H'
theorem scRatioCut : FnScope ["cut"] ["cut"] (defScope sRatioCut) := ⟨rfl, rfl, rfl, by decide +kernel, rfl, by decide +kernel, by decide +kernel⟩
theorem ok_ratioCut {f fC : Addr} {fd fdC : FuncData} (F : Fun K "ratio_cut" "ratio_cut" sRatioCut f fd) (I : RI P w K mg base) (FC : Fun K "is_cut" "is_cut" sIsCut fC fdC) (gC : mg "is_cut" = some (.ref fC)) (bC : Binds K fdC ["value"] []) : FnOk P w K mg base CX0 5 f fd ["cut"] (spRatioCut K) := by
  have GC : FnOk P w K mg base CX0 3 fC fdC ["value"] (spIsCut K) := ok_isCut FC I
  obtain ⟨mc, pp, fo, cr, cm, GO⟩ := I.R.of
  have T := I.R.G.T
  refine F.ok scRatioCut (fun vs H Q E h => ?_) (fun cdv A outer s H vs Q E hr h => ?_)
  · obtain ⟨x, q, b, rfl, _⟩ := h
    rfl
  · obtain ⟨x, q, b, rfl, hx, k⟩ := h
    refine ⟨_, pss_cons (ps_if (pt_not (pt_val (pe_call GC (hr.mono (by decide)) rfl gC FC.kp bC .nil pass0 (pa_cons (pv 0) pa_nil)))) (pss_one ps_never) pss_nil)
      (pss_one (ps_ret (pe_tup (pa_cons (ClX.pe_cmeth (pe_glob (v := .ref (aR K)) rfl T.gR rfl) cr cm GO hr pass0 (pa_cons (pe_ix ix_tup (pv 0) pe_int (fun _ _ => rfl)) pa_nil)) (pa_cons (pe_ix ix_tup (pv 0) pe_int (fun _ _ => rfl)) pa_nil))))), ?_⟩
    refine ⟨_, rfl, x, q, b, rfl, hx, true, rfl, iteF ?_⟩
    obtain ⟨c, v, rfl, hc, hv⟩ := hx
    refine ⟨rfl, _, rfl, c, _, _, v, rfl, rfl, SqT.of hc, rfl, v, q, rfl, hv, fun p H' kp hp => ?_⟩
    refine ⟨_, rfl, c, _, _, .bl b, rfl, rfl, SqT.of (kp _ _ hc), rfl, (by show 2 ≤ sizeLine; decide), fun t ht => ?_⟩
    have up : Same H' (upd H' t (.tup [.ref p, .bl b])) := fun b o e => by rw [upd_ne (ne_of_none e ht)]; exact e
    exact k t p _ (kp.trans up) upd_same (hp.same up)
end
end K18
set_option maxHeartbeats 4000000
namespace K18
open PySem PySem.Spec PyProof.Rows L2 GL
def cAbove (x q : Rat) (b : Bool) : Bool := if b = true then rBelow q x else !rBelow x q
def cAhead (q : Rat) (b : Bool) (r : Rat) (c : Bool) : Bool := if (c && !b) = true then !rBelow r q else rBelow q r
/-- a cut whose number is a Ratio -/
def CutR (K : PySem.W.Frag) (H : Hp) (c : Addr) (q : Rat) (b : Bool) : Prop := ∃ p, H c = some (.tup [.ref p, .bl b]) ∧ RatAt K H p q
theorem CutR.same {K : PySem.W.Frag} {H H' : Hp} {c : Addr} {q : Rat} {b : Bool} (h : CutR K H c q b) (k : Same H H') : CutR K H' c q b := by
  obtain ⟨p, e, hp⟩ := h
  exact ⟨p, k _ _ e, hp.same k⟩
theorem CutR.cut {K : PySem.W.Frag} {H : Hp} {c : Addr} {q : Rat} {b : Bool} (h : CutR K H c q b) : CutAt K H (.ref c) q b := by
  obtain ⟨p, e, hp⟩ := h
  exact ⟨c, _, rfl, e, .inr ⟨p, rfl, hp⟩⟩
/-- what the functions on cuts call -/
structure RJ (P : Program) (w : World) (K : PySem.W.Frag) (mg : Str → Option Value) (base : Heap) : Prop where
  I : RI P w K mg base
  rc : ∃ f fd, FnOk P w K mg base CX0 5 f fd ["cut"] (spRatioCut K) ∧ mg "ratio_cut" = some (.ref f) ∧ Binds K fd ["cut"] [] ∧ PySem.W.keepIn K (.ref f) = true
section
variable {P : Program} {w : World} {K : PySem.W.Frag} {mg : Str → Option Value} {base : Heap}
/-! ### is_above -/
def spIsAbove (K : PySem.W.Frag) : Sp := fun vs H Q _ => ∃ (y x : V) (r q : Rat) (b : Bool), vs = [y, x] ∧ NumAt K H y r ∧ CutAt K H x q b ∧ Sz 100000 q ∧ Sz 100000 r ∧ ∀ H', Same H H' → Q (.bl (cAbove r q b)) H'
theorem scIsAbove : FnScope ["number", "cut", "ratio", "place", "just_above"] ["number", "cut"] (defScope sIsAbove) := ⟨rfl, rfl, rfl, by decide +kernel, rfl, by decide +kernel, by decide +kernel⟩
theorem ok_isAbove {f : Addr} {fd : FuncData} (F : Fun K "is_above" "is_above" sIsAbove f fd) (J : RJ P w K mg base) : FnOk P w K mg base CX0 6 f fd ["number", "cut"] (spIsAbove K) := by
  obtain ⟨fC, fdC, GC, gC, bC, kC⟩ := J.rc
  obtain ⟨mc, pp, fo, cr, cm, GO⟩ := J.I.R.of
  obtain ⟨fB, fdB, mB, GB, bB⟩ := J.I.below
  have T := J.I.R.G.T
  refine F.ok scIsAbove (fun vs H Q E h => ?_) (fun cdv A outer s H vs Q E hr h => ?_)
  · obtain ⟨y, x, r, q, b, rfl, _⟩ := h
    rfl
  · obtain ⟨y, x, r, q, b, rfl, hy, hx, sq, sr, k⟩ := h
    refine ⟨_, pss_cons (ps_set (i := 2) scIsAbove.nd rfl (Or.inl rfl) (ClX.pe_cmeth (pe_glob (v := .ref (aR K)) rfl T.gR rfl) cr cm GO (hr.mono (by decide)) pass0 (pa_cons (pv 0) pa_nil)))
      (pss_cons (ps_asg (pe_call GC hr rfl gC kC bC .nil pass0 (pa_cons (pv 1) pa_nil)) (pg_tup (by rfl) (pgs_cons (pg_name (i := 3) scIsAbove.nd rfl (.inl rfl)) (pgs_cons (pg_name (i := 4) scIsAbove.nd rfl (.inl rfl)) pgs_nil))))
      (pss_cons (ps_if (pt_val (pv 4)) (pss_one (ps_ret (pe_meth (pv 3) T.cl mB GB hr bB .nil pass0 (pa_cons (pv 2) pa_nil)))) pss_nil)
      (pss_one (ps_ret (pe_not (pe_meth (pv 2) T.cl mB GB hr bB .nil pass0 (pa_cons (pv 3) pa_nil))))))), ?_⟩
    refine ⟨rfl, _, rfl, y, r, rfl, hy, fun p H1 k1 hp => ?_⟩
    refine ⟨_, rfl, x, q, b, rfl, hx.same k1, fun c z H2 k2 hc hz => ?_⟩
    have hp2 := hp.same k2
    have k12 := k1.trans k2
    refine ⟨c, _, rfl, SqT.of hc, rfl, _, _, rfl, _, _, rfl, rfl, ?_⟩
    refine ⟨_, rfl, _, rfl, ?_⟩
    obtain ⟨dz, ez⟩ := hz
    obtain ⟨dp, ep⟩ := hp2
    unfold cAbove at k
    refine ite2 (fun e => ?_) (fun e => ?_)
    · rw [if_pos e] at k
      exact ⟨_, rfl, z, dz, _, rfl, ez, rfl, _, rfl, z, .ref p, q, r, rfl, ⟨dz, ez⟩, .inr ⟨p, rfl, dp, ep⟩, sq, sr, fun H3 k3 => k H3 (k12.trans k3)⟩
    · rw [if_neg e] at k
      exact ⟨_, rfl, p, dp, _, rfl, ep, rfl, _, rfl, p, .ref z, r, q, rfl, ⟨dp, ep⟩, .inr ⟨z, rfl, dz, ez⟩, sr, sq, fun H3 k3 => ⟨_, rfl, k H3 (k12.trans k3)⟩⟩
/-! ### precedes -/
def spPrec (K : PySem.W.Frag) : Sp := fun vs H Q _ => ∃ (x y : Addr) (q r : Rat) (b c : Bool), vs = [.ref x, .ref y] ∧ CutR K H x q b ∧ CutR K H y r c ∧ Sz 100000 q ∧ Sz 100000 r ∧ ∀ H', Same H H' → Q (.bl (cAhead q b r c)) H'
theorem scPrec : FnScope ["one", "other"] ["one", "other"] (defScope sPrecedes) := ⟨rfl, rfl, rfl, by decide +kernel, rfl, by decide +kernel, by decide +kernel⟩
theorem ok_prec {f : Addr} {fd : FuncData} (F : Fun K "precedes" "precedes" sPrecedes f fd) (J : RJ P w K mg base) : FnOk P w K mg base CX0 6 f fd ["one", "other"] (spPrec K) := by
  obtain ⟨fB, fdB, mB, GB, bB⟩ := J.I.below
  have T := J.I.R.G.T
  refine F.ok scPrec (fun vs H Q E h => ?_) (fun cdv A outer s H vs Q E hr h => ?_)
  · obtain ⟨x, y, q, r, b, c, rfl, _⟩ := h
    rfl
  · obtain ⟨x, y, q, r, b, c, rfl, ⟨p1, hx, d1, e1⟩, ⟨p2, hy, d2, e2⟩, sq, sr, k⟩ := h
    refine ⟨_, pss_cons (ps_if (PW.pt (pw_and (pt_val (pe_ix ix_tup (pv 1) pe_int (fun _ _ => rfl))) (pw_and1 (pt_not (pt_val (pe_ix ix_tup (pv 0) pe_int (fun _ _ => rfl)))))))
        (pss_one (ps_ret (pe_not (pe_meth (pe_ix ix_tup (pv 1) pe_int (fun _ _ => rfl)) T.cl mB GB hr bB .nil pass0 (pa_cons (pe_ix ix_tup (pv 0) pe_int (fun _ _ => rfl)) pa_nil))))) pss_nil)
      (pss_one (ps_ret (pe_meth (pe_ix ix_tup (pv 0) pe_int (fun _ _ => rfl)) T.cl mB GB hr bB .nil pass0 (pa_cons (pe_ix ix_tup (pv 1) pe_int (fun _ _ => rfl)) pa_nil)))), ?_⟩
    unfold cAhead at k
    have fin : ∀ H', Same H H' → c = true → b = false → Q (.bl !(rBelow r q)) H' := by
      rintro H' k' rfl rfl
      exact k H' k'
    refine ⟨_, rfl, y, _, _, .bl c, rfl, rfl, SqT.of hy, rfl, c, rfl, ?_⟩
    have fwd : (c && !b) = false → tMeth (aR K) "is_below" (spBelow K) [] E (tOp (rIxT K) (tVar 0) (tC (.int 0))) (tCons (tOp (rIxT K) (tVar 1) (tC (.int 0))) tNil) [some (.ref x), some (.ref y)] H Q := by
      intro z
      rw [z] at k
      refine ⟨_, rfl, x, _, _, .ref p1, rfl, rfl, SqT.of hx, rfl, p1, d1, _, rfl, e1, rfl, _, rfl, y, _, _, .ref p2, rfl, rfl, SqT.of hy, rfl, p1, .ref p2, q, r, rfl, ⟨d1, e1⟩, .inr ⟨p2, rfl, d2, e2⟩, sq, sr, fun H3 k3 => k H3 k3⟩
    cases c with
    | false => exact iteF (fwd rfl)
    | true =>
      refine iteT ⟨_, rfl, x, _, _, .bl b, rfl, rfl, SqT.of hx, rfl, b, rfl, ?_⟩
      cases b with
      | true => exact iteF (fwd rfl)
      | false => exact iteT ⟨_, rfl, y, _, _, .ref p2, rfl, rfl, SqT.of hy, rfl, p2, d2, _, rfl, e2, rfl, _, rfl, x, _, _, .ref p1, rfl, rfl, SqT.of hx, rfl, p2, .ref p1, r, q, rfl, ⟨d2, e2⟩, .inr ⟨p1, rfl, d1, e1⟩, sr, sq, fun H3 k3 => ⟨_, rfl, fin H3 k3 rfl rfl⟩⟩
/-! ### is_ahead -/
def spIsAhead (K : PySem.W.Frag) : Sp := fun vs H Q _ => ∃ (x y : V) (q r : Rat) (b c : Bool), vs = [x, y] ∧ CutAt K H x q b ∧ CutAt K H y r c ∧ Sz 100000 q ∧ Sz 100000 r ∧ ∀ H', Same H H' → Q (.bl (cAhead q b r c)) H'
theorem scIsAhead : FnScope ["one", "other"] ["one", "other"] (defScope sIsAhead) := ⟨rfl, rfl, rfl, by decide +kernel, rfl, by decide +kernel, by decide +kernel⟩
theorem ok_isAhead {f fP : Addr} {fd fdP : FuncData} (F : Fun K "is_ahead" "is_ahead" sIsAhead f fd) (J : RJ P w K mg base) (FP : Fun K "precedes" "precedes" sPrecedes fP fdP) (gP : mg "precedes" = some (.ref fP)) (bP : Binds K fdP ["one", "other"] []) : FnOk P w K mg base CX0 7 f fd ["one", "other"] (spIsAhead K) := by
  have GP : FnOk P w K mg base CX0 6 fP fdP ["one", "other"] (spPrec K) := ok_prec FP J
  obtain ⟨fC, fdC, GC, gC, bC, kC⟩ := J.rc
  refine F.ok scIsAhead (fun vs H Q E h => ?_) (fun cdv A outer s H vs Q E hr h => ?_)
  · obtain ⟨x, y, q, r, b, c, rfl, _⟩ := h
    rfl
  · obtain ⟨x, y, q, r, b, c, rfl, hx, hy, sq, sr, k⟩ := h
    refine ⟨_, pss_one (ps_ret (pe_call GP hr rfl gP FP.kp bP .nil pass0 (pa_cons (pe_call GC (hr.mono (by decide)) rfl gC kC bC .nil pass0 (pa_cons (pv 0) pa_nil)) (pa_cons (pe_call GC (hr.mono (by decide)) rfl gC kC bC .nil pass0 (pa_cons (pv 1) pa_nil)) pa_nil)))), ?_⟩
    refine ⟨_, rfl, x, q, b, rfl, hx, fun c1 z1 H1 k1 hc1 hz1 => ?_⟩
    refine ⟨_, rfl, y, r, c, rfl, hy.same k1, fun c2 z2 H2 k2 hc2 hz2 => ?_⟩
    exact ⟨c1, c2, q, r, b, c, rfl, ⟨z1, k2 _ _ hc1, hz1.same k2⟩, ⟨z2, hc2, hz2⟩, sq, sr, fun H3 k3 => k H3 ((k1.trans k2).trans k3)⟩
end
end K18
set_option maxHeartbeats 4000000
namespace K18
open PySem PySem.Spec PyProof.Rows L2 GL
abbrev sIsWithin : Stmt := tp 23
abbrev sMarkOf : Stmt := tp 24
theorem rAdd_sz {q r : Rat} {n : Nat} (h : Sz n q) (k : Sz n r) : Sz (n + n + 1) (rAdd q r) := by
  refine divInt_sz (Int.mul_ne_zero (den_ne q) (den_ne r)) ?_ (Nat.lt_of_lt_of_le (mul_lt h.den k.den) (Nat.pow_le_pow_right (by decide) (by omega)))
  have a := mul_lt h.1 k.den
  have b := mul_lt k.1 h.den
  have c := Int.natAbs_add_le (q.num * (r.den : Int)) (r.num * (q.den : Int))
  rw [Nat.pow_succ]
  omega
/-- the parts of the program that deal with cuts -/
structure RK (P : Program) (w : World) (K : PySem.W.Frag) (mg : Str → Option Value) (base : Heap) : Prop where
  J : RJ P w K mg base
  isCut : ∃ f fd, FnOk P w K mg base CX0 3 f fd ["value"] (spIsCut K) ∧ mg "is_cut" = some (.ref f) ∧ Binds K fd ["value"] [] ∧ PySem.W.keepIn K (.ref f) = true
  above : ∃ f fd, FnOk P w K mg base CX0 6 f fd ["number", "cut"] (spIsAbove K) ∧ mg "is_above" = some (.ref f) ∧ Binds K fd ["number", "cut"] [] ∧ PySem.W.keepIn K (.ref f) = true
  ahead : ∃ f fd, FnOk P w K mg base CX0 7 f fd ["one", "other"] (spIsAhead K) ∧ mg "is_ahead" = some (.ref f) ∧ Binds K fd ["one", "other"] [] ∧ PySem.W.keepIn K (.ref f) = true
  add : ∃ f, OwnBin K (aR K) .Add f ∧ FnR P w K mg base CX0 5 f (spBin K rAdd fun _ _ => True)
  over : ∃ f fd, Meth K (aR K) "over" f ∧ FnOk P w K mg base CX0 5 f fd ["self", "other"] (spBin K rOver fun _ r => r.num ≠ 0) ∧ Binds K fd ["self", "other"] []
/-- two cuts -/
def PairAt (K : PySem.W.Frag) (H : Hp) (x : V) (q : Rat) (b : Bool) (r : Rat) (c : Bool) : Prop := ∃ t u v, x = .ref t ∧ H t = some (.tup [u, v]) ∧ CutAt K H u q b ∧ CutAt K H v r c
theorem PairAt.same {K : PySem.W.Frag} {H H' : Hp} {x : V} {q r : Rat} {b c : Bool} (h : PairAt K H x q b r c) (k : Same H H') : PairAt K H' x q b r c := by
  obtain ⟨t, u, v, e, ht, hu, hv⟩ := h
  exact ⟨t, u, v, e, k _ _ ht, hu.same k, hv.same k⟩
section
variable {P : Program} {w : World} {K : PySem.W.Frag} {mg : Str → Option Value} {base : Heap}
/-! ### is_stretch -/
def spIsStretch (K : PySem.W.Frag) : Sp := fun vs H Q _ => ∃ x : V, vs = [x] ∧ ((∃ q b r c, PairAt K H x q b r c ∧ Sz 100000 q ∧ Sz 100000 r ∧ ∀ H', Same H H' → Q (.bl (cAhead q b r c)) H') ∨ (TyX K H x (.type "list") ∧ Q (.bl false) H))
theorem scIsStretch : FnScope ["value"] ["value"] (defScope sIsStretch) := ⟨rfl, rfl, rfl, by decide +kernel, rfl, by decide +kernel, by decide +kernel⟩
theorem ok_isStretch {f : Addr} {fd : FuncData} (F : Fun K "is_stretch" "is_stretch" sIsStretch f fd) (C : RK P w K mg base) : FnOk P w K mg base CX0 8 f fd ["value"] (spIsStretch K) := by
  obtain ⟨fC, fdC, GC, gC, bC, kC⟩ := C.isCut
  obtain ⟨fA, fdA, GA, gA, bA, kA⟩ := C.ahead
  have T := C.J.I.R.G.T
  have I := C.J.I
  refine F.ok scIsStretch (fun vs H Q E h => ?_) (fun cdv A outer s H vs Q E hr h => ?_)
  · obtain ⟨x, rfl, _⟩ := h
    rfl
  · obtain ⟨x, rfl, h⟩ := h
    refine ⟨_, pss_cons (ps_if (PW.pt (pw_or (pt_not (pt_val (pe_callB call_isi (by rfl) T.isi (by decide +kernel) (pa_cons (pv 0) (pa_cons (pe_bltn (v := .ty "tuple") (by rfl) I.tuple (by decide +kernel) rfl) pa_nil)))))
        (pw_or1 (pt_cmpR op_ne (pe_callB call_len_seq (by rfl) I.len PySem.boot_len (pa_cons (pv 0) pa_nil)) pe_int (nomark _))))) (pss_one (ps_ret pe_bl)) pss_nil)
      (pss_one (ps_ret (pe_and (pe_call GC (hr.mono (by decide)) rfl gC kC bC .nil pass0 (pa_cons (pe_ix ix_tup (pv 0) pe_int (fun _ _ => rfl)) pa_nil))
        (pe_and (pe_call GC (hr.mono (by decide)) rfl gC kC bC .nil pass0 (pa_cons (pe_ix ix_tup (pv 0) pe_int (fun _ _ => rfl)) pa_nil))
        (pe_one (pe_call GA hr rfl gA kA bA .nil pass0 (pa_cons (pe_ix ix_tup (pv 0) pe_int (fun _ _ => rfl)) (pa_cons (pe_ix ix_tup (pv 0) pe_int (fun _ _ => rfl)) pa_nil)))))))), ?_⟩
    rcases h with ⟨q, b, r, c, ⟨t, u, v, rfl, ht, hu, hv⟩, sq, sr, k⟩ | ⟨ty, k⟩
    · refine ⟨_, rfl, .ref t, .ty "tuple", .type "tuple", _, true, rfl, .ty _, .base (.tup ht), kit_ty (by decide +kernel), true, rfl, iteF ?_⟩
      refine ⟨_, rfl, t, _, rfl, .inr (SqT.of ht), rfl, _, rfl, iteF ?_⟩
      refine ⟨_, rfl, t, _, _, u, rfl, rfl, SqT.of ht, rfl, u, q, b, rfl, hu, true, rfl, iteT ?_⟩
      refine ⟨_, rfl, t, _, _, v, rfl, rfl, SqT.of ht, rfl, v, r, c, rfl, hv, true, rfl, iteT ?_⟩
      exact ⟨_, rfl, t, _, _, u, rfl, rfl, SqT.of ht, rfl, _, rfl, t, _, _, v, rfl, rfl, SqT.of ht, rfl, u, v, q, r, b, c, rfl, hu, hv, sq, sr, k⟩
    · exact ⟨_, rfl, x, .ty "tuple", .type "list", _, false, rfl, .ty _, ty, kit_ty (by decide +kernel), false, rfl, iteT k⟩
/-! ### is_within -/
def spIsWithin (K : PySem.W.Frag) : Sp := fun vs H Q _ => ∃ (y x : V) (z q r : Rat) (b c : Bool), vs = [y, x] ∧ NumAt K H y z ∧ PairAt K H x q b r c ∧ cAhead q b r c = true ∧ Sz 100000 z ∧ Sz 100000 q ∧ Sz 100000 r ∧ ∀ H', Same H H' → Q (.bl (cAbove z q b && !cAbove z r c)) H'
theorem scIsWithin : FnScope ["number", "stretch", "ratio"] ["number", "stretch"] (defScope sIsWithin) := ⟨rfl, rfl, rfl, by decide +kernel, rfl, by decide +kernel, by decide +kernel⟩
theorem ok_isWithin {f fS : Addr} {fd fdS : FuncData} (F : Fun K "is_within" "is_within" sIsWithin f fd) (C : RK P w K mg base) (FS : Fun K "is_stretch" "is_stretch" sIsStretch fS fdS) (gS : mg "is_stretch" = some (.ref fS)) (bS : Binds K fdS ["value"] []) : FnOk P w K mg base CX0 9 f fd ["number", "stretch"] (spIsWithin K) := by
  have GS : FnOk P w K mg base CX0 8 fS fdS ["value"] (spIsStretch K) := ok_isStretch FS C
  obtain ⟨fA, fdA, GA, gA, bA, kA⟩ := C.above
  obtain ⟨mc, pp, fo, cr, cm, GO⟩ := C.J.I.R.of
  have T := C.J.I.R.G.T
  refine F.ok scIsWithin (fun vs H Q E h => ?_) (fun cdv A outer s H vs Q E hr h => ?_)
  · obtain ⟨y, x, z, q, r, b, c, rfl, _⟩ := h
    rfl
  · obtain ⟨y, x, z, q, r, b, c, rfl, hy, hx, ah, sz, sq, sr, k⟩ := h
    refine ⟨_, pss_cons (ps_set (i := 2) scIsWithin.nd rfl (Or.inl rfl) (ClX.pe_cmeth (pe_glob (v := .ref (aR K)) rfl T.gR rfl) cr cm GO (hr.mono (by decide)) pass0 (pa_cons (pv 0) pa_nil)))
      (pss_cons (ps_if (pt_not (pt_val (pe_call GS hr rfl gS FS.kp bS .nil pass0 (pa_cons (pv 1) pa_nil)))) (pss_one ps_never) pss_nil)
      (pss_one (ps_ret (pe_and (pe_call GA (hr.mono (by decide)) rfl gA kA bA .nil pass0 (pa_cons (pv 2) (pa_cons (pe_ix ix_tup (pv 1) pe_int (fun _ _ => rfl)) pa_nil)))
        (pe_one (pe_not (pe_call GA (hr.mono (by decide)) rfl gA kA bA .nil pass0 (pa_cons (pv 2) (pa_cons (pe_ix ix_tup (pv 1) pe_int (fun _ _ => rfl)) pa_nil))))))))), ?_⟩
    refine ⟨rfl, _, rfl, y, z, rfl, hy, fun p H1 k1 hp => ?_⟩
    refine ⟨_, rfl, x, rfl, .inl ⟨q, b, r, c, hx.same k1, sq, sr, fun H2 k2 => ⟨_, rfl, ?_⟩⟩⟩
    rw [ah]
    refine iteF ?_
    have k12 := k1.trans k2
    obtain ⟨t, u, v, rfl, ht, hu, hv⟩ := hx.same k12
    refine ⟨_, rfl, _, rfl, t, _, _, u, rfl, rfl, SqT.of ht, rfl, .ref p, u, z, q, b, rfl, .inr ⟨p, rfl, hp.same k2⟩, hu, sq, sz, fun H3 k3 => ⟨_, rfl, ?_⟩⟩
    cases hA : cAbove z q b with
    | false =>
      rw [hA] at k
      exact iteF (k H3 (k12.trans k3))
    | true =>
      rw [hA] at k
      refine iteT ⟨_, rfl, _, rfl, t, _, _, v, rfl, rfl, SqT.of (k3 _ _ ht), rfl, .ref p, v, z, r, c, rfl, .inr ⟨p, rfl, (hp.same k2).same k3⟩, hv.same k3, sr, sz, fun H4 k4 => ⟨_, rfl, k H4 ((k12.trans k3).trans k4)⟩⟩
end
end K18
set_option maxHeartbeats 4000000
namespace K18
open PySem PySem.Spec PyProof.Rows L2 GL
def cMark (q : Rat) (b : Bool) (r : Rat) (c : Bool) : Rat := if b = false then q else if c = true then r else rOver (rAdd q r) 2
section
variable {P : Program} {w : World} {K : PySem.W.Frag} {mg : Str → Option Value} {base : Heap}
/-! ### mark_of -/
def spMarkOf (K : PySem.W.Frag) : Sp := fun vs H Q _ => ∃ (x : V) (q r : Rat) (b c : Bool), vs = [x] ∧ PairAt K H x q b r c ∧ cAhead q b r c = true ∧ Sz 1000 q ∧ Sz 1000 r ∧ ∀ p H', Same H H' → RatAt K H' p (cMark q b r c) → Q (.ref p) H'
theorem scMarkOf : FnScope ["stretch", "low", "low_is_out", "high", "high_is_in"] ["stretch"] (defScope sMarkOf) := ⟨rfl, rfl, rfl, by decide +kernel, rfl, by decide +kernel, by decide +kernel⟩
theorem ok_markOf {f fS : Addr} {fd fdS : FuncData} (F : Fun K "mark_of" "mark_of" sMarkOf f fd) (C : RK P w K mg base) (FS : Fun K "is_stretch" "is_stretch" sIsStretch fS fdS) (gS : mg "is_stretch" = some (.ref fS)) (bS : Binds K fdS ["value"] []) : FnOk P w K mg base CX0 9 f fd ["stretch"] (spMarkOf K) := by
  have GS : FnOk P w K mg base CX0 8 fS fdS ["value"] (spIsStretch K) := ok_isStretch FS C
  obtain ⟨fC, fdC, GC, gC, bC, kC⟩ := C.J.rc
  obtain ⟨fD, oD, GD⟩ := C.add
  obtain ⟨fO, fdO, mO, GO, bO⟩ := C.over
  have T := C.J.I.R.G.T
  refine F.ok scMarkOf (fun vs H Q E h => ?_) (fun cdv A outer s H vs Q E hr h => ?_)
  · obtain ⟨x, q, r, b, c, rfl, _⟩ := h
    rfl
  · obtain ⟨x, q, r, b, c, rfl, hx, ah, sq, sr, k⟩ := h
    refine ⟨_, pss_cons (ps_if (pt_not (pt_val (pe_call GS hr rfl gS FS.kp bS .nil pass0 (pa_cons (pv 0) pa_nil)))) (pss_one ps_never) pss_nil)
      (pss_cons (ps_asg (pe_call GC (hr.mono (by decide)) rfl gC kC bC .nil pass0 (pa_cons (pe_ix ix_tup (pv 0) pe_int (fun _ _ => rfl)) pa_nil)) (pg_tup (by rfl) (pgs_cons (pg_name (i := 1) scMarkOf.nd rfl (.inl rfl)) (pgs_cons (pg_name (i := 2) scMarkOf.nd rfl (.inl rfl)) pgs_nil))))
      (pss_cons (ps_asg (pe_call GC (hr.mono (by decide)) rfl gC kC bC .nil pass0 (pa_cons (pe_ix ix_tup (pv 0) pe_int (fun _ _ => rfl)) pa_nil)) (pg_tup (by rfl) (pgs_cons (pg_name (i := 3) scMarkOf.nd rfl (.inl rfl)) (pgs_cons (pg_name (i := 4) scMarkOf.nd rfl (.inl rfl)) pgs_nil))))
      (pss_cons (ps_if (pt_not (pt_val (pv 2))) (pss_one (ps_ret (pv 1))) pss_nil)
      (pss_cons (ps_if (pt_val (pv 4)) (pss_one (ps_ret (pv 3))) pss_nil)
      (pss_one (ps_ret (pe_meth (pe_op (op_own (.inl rfl) oD GD (hr.mono (by decide)) pass0) (pv 1) (pv 3)) T.cl mO GO (hr.mono (by decide)) bO .nil pass0 (pa_cons pe_int pa_nil)))))))), ?_⟩
    refine ⟨_, rfl, x, rfl, .inl ⟨q, b, r, c, hx, sq.mono (by decide), sr.mono (by decide), fun H1 k1 => ⟨_, rfl, ?_⟩⟩⟩
    rw [ah]
    refine iteF ?_
    obtain ⟨t, u, v, rfl, ht, hu, hv⟩ := hx.same k1
    refine ⟨_, rfl, t, _, _, u, rfl, rfl, SqT.of ht, rfl, u, q, b, rfl, hu, fun c1 z1 H2 k2 hc1 hz1 => ?_⟩
    refine ⟨c1, _, rfl, SqT.of hc1, rfl, _, _, rfl, _, _, rfl, rfl, ?_⟩
    refine ⟨_, rfl, t, _, _, v, rfl, rfl, SqT.of (k2 _ _ ht), rfl, v, r, c, rfl, hv.same k2, fun c2 z2 H3 k3 hc2 hz2 => ?_⟩
    refine ⟨c2, _, rfl, SqT.of hc2, rfl, _, _, rfl, _, _, rfl, rfl, ?_⟩
    have k13 := (k1.trans k2).trans k3
    have hz1' := hz1.same k3
    unfold cMark at k
    refine ⟨_, rfl, b, rfl, ?_⟩
    cases b with
    | false => exact iteT ⟨_, rfl, k z1 H3 k13 hz1'⟩
    | true =>
      refine iteF ⟨_, rfl, c, rfl, ?_⟩
      cases c with
      | true => exact iteT ⟨_, rfl, k z2 H3 k13 hz2⟩
      | false =>
        obtain ⟨d1, e1⟩ := hz1'
        obtain ⟨d2, e2⟩ := hz2
        refine iteF ⟨_, rfl, _, rfl, z1, d1, _, rfl, e1, .inl ⟨z2, d2, _, rfl, e2⟩, ?_⟩
        refine ⟨z1, .ref z2, q, r, rfl, ⟨d1, e1⟩, .inr ⟨z2, rfl, d2, e2⟩, sq.mono (by decide), sr.mono (by decide), trivial, fun p4 H4 k4 hp4 => ?_⟩
        obtain ⟨d4, e4⟩ := hp4
        refine ⟨p4, d4, _, rfl, e4, rfl, p4, .int 2, rAdd q r, 2, rfl, ⟨d4, e4⟩, .inl ⟨2, rfl, rfl⟩, (rAdd_sz sq sr).mono (by decide), ⟨by show (2 : Int).natAbs < 2 ^ 4000; exact Nat.lt_of_lt_of_le (by decide : 2 < 2 ^ 2) (Nat.pow_le_pow_right (by decide) (by decide)), by show 1 < 2 ^ 4000; exact Nat.one_lt_two_pow (by decide)⟩, (by show (2 : Int) ≠ 0; decide), fun p5 H5 k5 hp5 => k p5 H5 ((k13.trans k4).trans k5) hp5⟩
end
end K18
set_option maxHeartbeats 4000000
namespace K18
open PySem PySem.Spec PyProof.Rows L2 GL
abbrev sRange (j : Nat) : Stmt := inClass (tp 25) j
abbrev aG (K : PySem.W.Frag) : Addr := He.ga K "Range"
structure GF (K : PySem.W.Frag) (mg : Str → Option Value) : Prop where
  cl : Cls K (aG K)
  nL : NoAttr K (aG K) "_low"
  nH : NoAttr K (aG K) "_high"
  kc : PySem.W.findIn K (.ref (aG K)) "__class__" = some (some (.builtin "object.__class__"))
  sp : PySem.W.specialIn K (.builtin "object.__class__") "__get__" = some (some (.builtin "getset_descriptor.__get__"))
  tk : PySem.W.takesIn K (.builtin "object.__class__") = some true
  ob : PySem.W.mroIn K (aG K) (.type "object") = some true
  gG : mg "Range" = some (.ref (aG K))
theorem ins_fs {C D d e : Addr} {fs gs : List (Str × V)} (h : some (HO.ins C d fs) = some (HO.ins D e gs)) : fs = gs := by
  injection h with h
  injection h
/-- a Range at an address -/
def RngAt (K : PySem.W.Frag) (H : Hp) (p : Addr) (q r : Rat) : Prop := rBelow r q = false ∧ ∃ dx a b, H p = some (.ins (aG K) dx [("_low", .ref a), ("_high", .ref b)]) ∧ RatAt K H a q ∧ RatAt K H b r
theorem RngAt.same {K : PySem.W.Frag} {H H' : Hp} {p : Addr} {q r : Rat} (h : RngAt K H p q r) (k : Same H H') : RngAt K H' p q r := by
  obtain ⟨l, dx, a, b, e, ha, hb⟩ := h
  exact ⟨l, dx, a, b, k _ _ e, ha.same k, hb.same k⟩
theorem RngAt.ty {K : PySem.W.Frag} {mg : Str → Option Value} {H : Hp} {p : Addr} {q r : Rat} (T : GF K mg) (h : RngAt K H p q r) : TyX K H (.ref p) (.ref (aG K)) := by
  obtain ⟨_, dx, a, b, e, _⟩ := h
  exact .base (.ins e T.cl T.kc T.sp T.tk T.ob)
section
variable {P : Program} {w : World} {K : PySem.W.Frag} {mg : Str → Option Value} {base : Heap}
/-! ### Range.__init__ -/
def spGInit (K : PySem.W.Frag) : Sp := fun vs H Q _ => ∃ (s dx : Addr) (x y : V) (q r : Rat), vs = [.ref s, x, y] ∧ H s = some (.ins (aG K) dx []) ∧ NumAt K H x q ∧ NumAt K H y r ∧ Sz 100000 q ∧ Sz 100000 r ∧ rBelow r q = false ∧
  ∀ H', (∀ c o, c ≠ s → H c = some o → H' c = some o) → RngAt K H' s q r → Q .non H'
theorem scGInit : FnScope ["self", "low", "high"] ["self", "low", "high"] (defScope (sRange 0)) := ⟨rfl, rfl, rfl, by decide +kernel, rfl, by decide +kernel, by decide +kernel⟩
theorem ok_gInit {f : Addr} {fd : FuncData} (F : FunD K "__init__" "Range.__init__" (defArgs (sRange 0)) (defBody (sRange 0)) (defScope (sRange 0)) [] [] f fd) (C : RK P w K mg base) (T : GF K mg) : FnOk P w K mg base CX0 6 f fd ["self", "low", "high"] (spGInit K) := by
  obtain ⟨mc, pp, fo, cr, cm, GO⟩ := C.J.I.R.of
  obtain ⟨fB, fdB, mB, GB, bB⟩ := C.J.I.below
  have TR := C.J.I.R.G.T
  refine F.ok scGInit (fun vs H Q E h => ?_) (fun cdv A outer s H vs Q E hr h => ?_)
  · obtain ⟨s, dx, x, y, q, r, rfl, _⟩ := h
    rfl
  · obtain ⟨s, dx, x, y, q, r, rfl, es, hx, hy, sq, sr, le, k⟩ := h
    refine ⟨_, pss_cons (ps_fld (pv 0) (ClX.pe_cmeth (pe_glob (v := .ref (aR K)) rfl TR.gR rfl) cr cm GO (hr.mono (by decide)) pass0 (pa_cons (pv 1) pa_nil)) rfl)
      (pss_cons (ps_fld (pv 0) (ClX.pe_cmeth (pe_glob (v := .ref (aR K)) rfl TR.gR rfl) cr cm GO (hr.mono (by decide)) pass0 (pa_cons (pv 2) pa_nil)) rfl)
      (pss_one (ps_if (pt_val (pe_meth (pe_fld (pv 0) rfl) TR.cl mB GB hr bB .nil pass0 (pa_cons (pe_fld (pv 0) rfl) pa_nil))) (pss_one ps_never) pss_nil))), ?_⟩
    refine ⟨rfl, _, rfl, x, q, rfl, hx, fun a H1 k1 ha => ?_⟩
    have es1 := k1 _ _ es
    refine ⟨_, rfl, s, _, dx, _, rfl, es1, T.cl, T.nL, (by decide), ?_⟩
    have sa : s ≠ a := by
      obtain ⟨da, ea⟩ := ha
      rintro rfl
      rw [es1] at ea
      exact nomatch ins_fs ea
    have notS : ∀ {c : Addr} {z : Rat} {H0 : Hp}, H0 s = some (.ins (aG K) dx []) → RatAt K H0 c z → ∀ {o : HO}, RatAt K (upd H0 s o) c z := by
      intro c z H0 e0 hc o
      obtain ⟨dc, ec⟩ := hc
      refine ⟨dc, ?_⟩
      rw [upd_ne]
      · exact ec
      · rintro rfl
        rw [e0] at ec
        exact nomatch ins_fs ec
    have hy1 : NumAt K (upd H1 s (.ins (aG K) dx [("_low", .ref a)])) y r := by
      rcases hy.same k1 with h | ⟨p, e, hp⟩
      · exact .inl h
      · exact .inr ⟨p, e, notS es1 hp⟩
    refine ⟨rfl, _, rfl, y, r, rfl, hy1, fun b H2 k2 hb => ?_⟩
    have es2 := k2 _ _ upd_same
    refine ⟨_, rfl, s, _, dx, _, rfl, es2, T.cl, T.nH, (by show 1 < 1000; decide), ?_⟩
    have ha2 : RatAt K (upd H2 s (.ins (aG K) dx [("_low", .ref a), ("_high", .ref b)])) a q := by
      obtain ⟨da, ea⟩ := (notS es1 ha (o := .ins (aG K) dx [("_low", .ref a)])).same k2
      exact ⟨da, by rw [upd_ne (Ne.symm sa)]; exact ea⟩
    have sb : s ≠ b := by
      obtain ⟨db, eb⟩ := hb
      rintro rfl
      rw [es2] at eb
      have z := ins_fs eb
      injection z with z1 z2
      cases z2
    have hb2 : RatAt K (upd H2 s (.ins (aG K) dx [("_low", .ref a), ("_high", .ref b)])) b r := by
      obtain ⟨db, eb⟩ := hb
      exact ⟨db, by rw [upd_ne (Ne.symm sb)]; exact eb⟩
    obtain ⟨da, ea⟩ := ha2
    obtain ⟨db, eb⟩ := hb2
    refine ⟨_, rfl, s, _, dx, _, _, rfl, upd_same, T.cl, T.nH, rfl, b, db, _, rfl, eb, rfl, _, rfl, s, _, dx, _, _, rfl, upd_same, T.cl, T.nL, rfl, b, .ref a, r, q, rfl, ⟨db, eb⟩, .inr ⟨a, rfl, da, ea⟩, sr, sq, fun H3 k3 => ⟨_, rfl, ?_⟩⟩
    rw [le]
    refine iteF (k H3 (fun c o hc e => k3 _ _ (by rw [upd_ne hc]; exact k2 _ _ (by rw [upd_ne hc]; exact k1 _ _ e))) ⟨le, dx, a, b, k3 _ _ upd_same, RatAt.same ⟨da, ea⟩ k3, RatAt.same ⟨db, eb⟩ k3⟩)
end
end K18
set_option maxHeartbeats 4000000
namespace K18
open PySem PySem.Spec PyProof.Rows L2 GL
section
variable {P : Program} {w : World} {K : PySem.W.Frag} {mg : Str → Option Value} {base : Heap}
def spGetR (K : PySem.W.Frag) (g : Rat → Rat → Rat) : Sp := fun vs H Q _ => ∃ (s : Addr) (q r : Rat), vs = [.ref s] ∧ RngAt K H s q r ∧ ∀ a, RatAt K H a (g q r) → Q (.ref a) H
theorem scG_low : FnScope ["self"] ["self"] (defScope (sRange 1)) := ⟨rfl, rfl, rfl, by decide +kernel, rfl, by decide +kernel, by decide +kernel⟩
theorem ok_g_low {f : Addr} {fd : FuncData} (F : FunD K "low" "Range.low" (defArgs (sRange 1)) (defBody (sRange 1)) (defScope (sRange 1)) [] [] f fd) (T : GF K mg) : FnOk P w K mg base CX0 1 f fd ["self"] (spGetR K (fun q _ => q)) := by
  refine F.ok scG_low (fun vs H Q E h => ?_) (fun cdv A outer s H vs Q E hr h => ?_)
  · obtain ⟨s, q, r, rfl, _⟩ := h
    rfl
  · obtain ⟨s, q, r, rfl, ⟨le, dx, a, b, es, ha, hb⟩, k⟩ := h
    exact ⟨_, pss_one (ps_ret (pe_fld (pv 0) rfl)), _, rfl, s, _, dx, _, _, rfl, es, T.cl, T.nL, rfl, k _ ha⟩
theorem scG_high : FnScope ["self"] ["self"] (defScope (sRange 2)) := ⟨rfl, rfl, rfl, by decide +kernel, rfl, by decide +kernel, by decide +kernel⟩
theorem ok_g_high {f : Addr} {fd : FuncData} (F : FunD K "high" "Range.high" (defArgs (sRange 2)) (defBody (sRange 2)) (defScope (sRange 2)) [] [] f fd) (T : GF K mg) : FnOk P w K mg base CX0 1 f fd ["self"] (spGetR K (fun _ r => r)) := by
  refine F.ok scG_high (fun vs H Q E h => ?_) (fun cdv A outer s H vs Q E hr h => ?_)
  · obtain ⟨s, q, r, rfl, _⟩ := h
    rfl
  · obtain ⟨s, q, r, rfl, ⟨le, dx, a, b, es, ha, hb⟩, k⟩ := h
    exact ⟨_, pss_one (ps_ret (pe_fld (pv 0) rfl)), _, rfl, s, _, dx, _, _, rfl, es, T.cl, T.nH, rfl, k _ hb⟩
/-! ### outer -/
def spOuter (K : PySem.W.Frag) : Sp := fun vs H Q _ => ∃ (s : Addr) (q r : Rat), vs = [.ref s] ∧ RngAt K H s q r ∧ ∀ x H', Same H H' → (∃ t u v, x = .ref t ∧ H' t = some (.tup [u, v]) ∧ CutAt K H' u q false ∧ CutAt K H' v r true) → Q x H'
theorem scOuter : FnScope ["self"] ["self"] (defScope (sRange 3)) := ⟨rfl, rfl, rfl, by decide +kernel, rfl, by decide +kernel, by decide +kernel⟩
theorem ok_outer {f : Addr} {fd : FuncData} (F : FunD K "outer" "Range.outer" (defArgs (sRange 3)) (defBody (sRange 3)) (defScope (sRange 3)) [] [] f fd) (T : GF K mg) : FnOk P w K mg base CX0 1 f fd ["self"] (spOuter K) := by
  refine F.ok scOuter (fun vs H Q E h => ?_) (fun cdv A outer s H vs Q E hr h => ?_)
  · obtain ⟨s, q, r, rfl, _⟩ := h
    rfl
  · obtain ⟨s, q, r, rfl, ⟨le, dx, a, b, es, ha, hb⟩, k⟩ := h
    refine ⟨_, pss_one (ps_ret (pe_tup (pa_cons (pe_tup (pa_cons (pe_fld (pv 0) rfl) (pa_cons pe_bl pa_nil))) (pa_cons (pe_tup (pa_cons (pe_fld (pv 0) rfl) (pa_cons pe_bl pa_nil))) pa_nil)))), ?_⟩
    refine ⟨_, rfl, s, _, dx, _, _, rfl, es, T.cl, T.nL, rfl, (by show 2 ≤ sizeLine; decide), fun t1 h1 => ?_⟩
    have s1 : Same H (upd H t1 (.tup [.ref a, .bl false])) := fun b o e => by rw [upd_ne (ne_of_none e h1)]; exact e
    refine ⟨_, rfl, s, _, dx, _, _, rfl, s1 _ _ es, T.cl, T.nH, rfl, (by show 2 ≤ sizeLine; decide), fun t2 h2 => ?_⟩
    generalize hH1 : upd H t1 (.tup [.ref a, .bl false]) = H1 at *
    have e1 : H1 t1 = some (.tup [.ref a, .bl false]) := by rw [← hH1]; exact upd_same
    have s2 : Same H1 (upd H1 t2 (.tup [.ref b, .bl true])) := fun b o e => by rw [upd_ne (ne_of_none e h2)]; exact e
    refine ⟨(by show 2 ≤ sizeLine; decide), fun t3 h3 => ?_⟩
    generalize hH2 : upd H1 t2 (.tup [.ref b, .bl true]) = H2 at *
    have e2 : H2 t2 = some (.tup [.ref b, .bl true]) := by rw [← hH2]; exact upd_same
    have s3 : Same H2 (upd H2 t3 (.tup [.ref t1, .ref t2])) := fun b o e => by rw [upd_ne (ne_of_none e h3)]; exact e
    exact k _ _ ((s1.trans s2).trans s3) ⟨t3, _, _, rfl, upd_same, ⟨t1, _, rfl, s3 _ _ (s2 _ _ e1), .inr ⟨a, rfl, ((ha.same s1).same s2).same s3⟩⟩, ⟨t2, _, rfl, s3 _ _ e2, .inr ⟨b, rfl, ((hb.same s1).same s2).same s3⟩⟩⟩
end
end K18
set_option maxHeartbeats 4000000
namespace K18
open PySem PySem.Spec PyProof.Rows L2 GL
def cInner (q r z : Rat) (b : Bool) : Bool := cAhead q false z b && cAhead z b r true
def cFitQ (q r z : Rat) (b : Bool) : Rat := if cInner q r z b = true then z else if cAhead q false z b = true then r else q
def cFitB (q r z : Rat) (b : Bool) : Bool := if cInner q r z b = true then b else if cAhead q false z b = true then true else false
/-- the parts of Range that others call -/
structure RL (P : Program) (w : World) (K : PySem.W.Frag) (mg : Str → Option Value) (base : Heap) : Prop where
  C : RK P w K mg base
  T : GF K mg
  outer : ∃ f fd, Meth K (aG K) "outer" f ∧ FnOk P w K mg base CX0 1 f fd ["self"] (spOuter K) ∧ Binds K fd ["self"] []
section
variable {P : Program} {w : World} {K : PySem.W.Frag} {mg : Str → Option Value} {base : Heap}
/-! ### is_inner -/
def spInner (K : PySem.W.Frag) : Sp := fun vs H Q _ => ∃ (s : Addr) (x : V) (q r z : Rat) (b : Bool), vs = [.ref s, x] ∧ RngAt K H s q r ∧ CutAt K H x z b ∧ Sz 100000 q ∧ Sz 100000 r ∧ Sz 100000 z ∧ ∀ H', Same H H' → Q (.bl (cInner q r z b)) H'
theorem scInner : FnScope ["self", "cut", "first", "second"] ["self", "cut"] (defScope (sRange 4)) := ⟨rfl, rfl, rfl, by decide +kernel, rfl, by decide +kernel, by decide +kernel⟩
theorem ok_inner {f : Addr} {fd : FuncData} (F : FunD K "is_inner" "Range.is_inner" (defArgs (sRange 4)) (defBody (sRange 4)) (defScope (sRange 4)) [] [] f fd) (L : RL P w K mg base) : FnOk P w K mg base CX0 8 f fd ["self", "cut"] (spInner K) := by
  obtain ⟨fO, fdO, mO, GO, bO⟩ := L.outer
  obtain ⟨fA, fdA, GA, gA, bA, kA⟩ := L.C.ahead
  have T := L.T
  refine F.ok scInner (fun vs H Q E h => ?_) (fun cdv A outer s H vs Q E hr h => ?_)
  · obtain ⟨s, x, q, r, z, b, rfl, _⟩ := h
    rfl
  · obtain ⟨s, x, q, r, z, b, rfl, hs, hx, sq, sr, sz, k⟩ := h
    refine ⟨_, pss_cons (ps_asg (pe_meth0 (pv 0) T.cl mO GO (hr.mono (by decide)) bO .nil pass0) (pg_tup (by rfl) (pgs_cons (pg_name (i := 2) scInner.nd rfl (.inl rfl)) (pgs_cons (pg_name (i := 3) scInner.nd rfl (.inl rfl)) pgs_nil))))
      (pss_one (ps_ret (pe_and (pe_call GA hr rfl gA kA bA .nil pass0 (pa_cons (pv 2) (pa_cons (pv 1) pa_nil))) (pe_one (pe_call GA hr rfl gA kA bA .nil pass0 (pa_cons (pv 1) (pa_cons (pv 3) pa_nil))))))), ?_⟩
    have hs' := hs
    obtain ⟨le, dx, a, b', es, ha, hb⟩ := hs'
    refine ⟨_, rfl, s, dx, _, rfl, es, rfl, s, q, r, rfl, hs, fun x1 H1 k1 hx1 => ?_⟩
    obtain ⟨t, u, v, rfl, ht, hu, hv⟩ := hx1
    refine ⟨t, _, rfl, SqT.of ht, rfl, _, _, rfl, _, _, rfl, rfl, ?_⟩
    refine ⟨_, rfl, _, rfl, u, x, q, z, false, b, rfl, hu, hx.same k1, sq, sz, fun H2 k2 => ⟨_, rfl, ?_⟩⟩
    unfold cInner at k
    cases hA : cAhead q false z b with
    | false =>
      rw [hA] at k
      exact iteF (k H2 (k1.trans k2))
    | true =>
      rw [hA] at k
      exact iteT ⟨_, rfl, _, rfl, x, v, z, r, b, true, rfl, (hx.same k1).same k2, hv.same k2, sz, sr, fun H3 k3 => k H3 ((k1.trans k2).trans k3)⟩
/-! ### fit -/
def spFit (K : PySem.W.Frag) : Sp := fun vs H Q _ => ∃ (s : Addr) (x : V) (q r z : Rat) (b : Bool), vs = [.ref s, x] ∧ RngAt K H s q r ∧ CutAt K H x z b ∧ Sz 100000 q ∧ Sz 100000 r ∧ Sz 100000 z ∧ ∀ y H', Same H H' → CutAt K H' y (cFitQ q r z b) (cFitB q r z b) → Q y H'
theorem scFit : FnScope ["self", "cut", "first", "second"] ["self", "cut"] (defScope (sRange 5)) := ⟨rfl, rfl, rfl, by decide +kernel, rfl, by decide +kernel, by decide +kernel⟩
theorem ok_fit {f fI : Addr} {fd fdI : FuncData} (F : FunD K "fit" "Range.fit" (defArgs (sRange 5)) (defBody (sRange 5)) (defScope (sRange 5)) [] [] f fd) (L : RL P w K mg base) (FI : FunD K "is_inner" "Range.is_inner" (defArgs (sRange 4)) (defBody (sRange 4)) (defScope (sRange 4)) [] [] fI fdI) (mI : Meth K (aG K) "is_inner" fI) (bI : Binds K fdI ["self", "cut"] []) : FnOk P w K mg base CX0 9 f fd ["self", "cut"] (spFit K) := by
  have GI : FnOk P w K mg base CX0 8 fI fdI ["self", "cut"] (spInner K) := ok_inner FI L
  obtain ⟨fO, fdO, mO, GO, bO⟩ := L.outer
  obtain ⟨fA, fdA, GA, gA, bA, kA⟩ := L.C.ahead
  obtain ⟨fC, fdC, GC, gC, bC, kC⟩ := L.C.J.rc
  have T := L.T
  refine F.ok scFit (fun vs H Q E h => ?_) (fun cdv A outer s H vs Q E hr h => ?_)
  · obtain ⟨s, x, q, r, z, b, rfl, _⟩ := h
    rfl
  · obtain ⟨s, x, q, r, z, b, rfl, hs, hx, sq, sr, sz, k⟩ := h
    refine ⟨_, pss_cons (ps_asg (pe_meth0 (pv 0) T.cl mO GO (hr.mono (by decide)) bO .nil pass0) (pg_tup (by rfl) (pgs_cons (pg_name (i := 2) scFit.nd rfl (.inl rfl)) (pgs_cons (pg_name (i := 3) scFit.nd rfl (.inl rfl)) pgs_nil))))
      (pss_cons (ps_if (pt_val (pe_meth (pv 0) T.cl mI GI hr bI .nil pass0 (pa_cons (pv 1) pa_nil))) (pss_one (ps_ret (pe_call GC (hr.mono (by decide)) rfl gC kC bC .nil pass0 (pa_cons (pv 1) pa_nil)))) pss_nil)
      (pss_one (ps_ret (pe_ifExp (pt_val (pe_call GA (hr.mono (by decide)) rfl gA kA bA .nil pass0 (pa_cons (pv 2) (pa_cons (pv 1) pa_nil)))) (pv 3) (pv 2))))), ?_⟩
    have hs' := hs
    obtain ⟨le, dx, a, b', es, ha, hb⟩ := hs'
    refine ⟨_, rfl, s, dx, _, rfl, es, rfl, s, q, r, rfl, hs, fun x1 H1 k1 hx1 => ?_⟩
    obtain ⟨t, u, v, rfl, ht, hu, hv⟩ := hx1
    refine ⟨t, _, rfl, SqT.of ht, rfl, _, _, rfl, _, _, rfl, rfl, ?_⟩
    refine ⟨_, rfl, s, dx, _, rfl, k1 _ _ es, rfl, _, rfl, s, x, q, r, z, b, rfl, hs.same k1, hx.same k1, sq, sr, sz, fun H2 k2 => ⟨_, rfl, ?_⟩⟩
    unfold cFitQ cFitB at k
    cases hI : cInner q r z b with
    | true =>
      rw [hI] at k
      refine iteT ⟨_, rfl, x, z, b, rfl, (hx.same k1).same k2, fun c p H3 k3 hc hp => ?_⟩
      exact k _ H3 ((k1.trans k2).trans k3) ⟨c, _, rfl, hc, .inr ⟨p, rfl, hp⟩⟩
    | false =>
      rw [hI] at k
      refine iteF ⟨_, rfl, _, rfl, u, x, q, z, false, b, rfl, hu.same k2, (hx.same k1).same k2, sq, sz, fun H3 k3 => ⟨_, rfl, ?_⟩⟩
      cases hA : cAhead q false z b with
      | true =>
        rw [hA] at k
        exact iteT ⟨_, rfl, k _ H3 ((k1.trans k2).trans k3) ((hv.same k2).same k3)⟩
      | false =>
        rw [hA] at k
        exact iteF ⟨_, rfl, k _ H3 ((k1.trans k2).trans k3) ((hu.same k2).same k3)⟩
end
end K18
set_option maxHeartbeats 4000000
namespace K18
open PySem PySem.Spec PyProof.Rows L2 GL
section
variable {P : Program} {w : World} {K : PySem.W.Frag} {mg : Str → Option Value} {base : Heap}
/-! ### has_stretch -/
def cHas (q r y : Rat) (b : Bool) (z : Rat) (c : Bool) : Bool := cAhead y b z c && (!cAhead y b q false && !cAhead r true z c)
def spHas (K : PySem.W.Frag) : Sp := fun vs H Q _ => ∃ (s : Addr) (x : V), vs = [.ref s, x] ∧
  ((∃ q r y z b c, RngAt K H s q r ∧ PairAt K H x y b z c ∧ Sz 100000 q ∧ Sz 100000 r ∧ Sz 100000 y ∧ Sz 100000 z ∧ ∀ H', Same H H' → Q (.bl (cHas q r y b z c)) H') ∨ (TyX K H x (.type "list") ∧ Q (.bl false) H))
theorem scHas : FnScope ["self", "value", "first", "second"] ["self", "value"] (defScope (sRange 6)) := ⟨rfl, rfl, rfl, by decide +kernel, rfl, by decide +kernel, by decide +kernel⟩
theorem ok_has {f fS : Addr} {fd fdS : FuncData} (F : FunD K "has_stretch" "Range.has_stretch" (defArgs (sRange 6)) (defBody (sRange 6)) (defScope (sRange 6)) [] [] f fd) (L : RL P w K mg base) (FS : Fun K "is_stretch" "is_stretch" sIsStretch fS fdS) (gS : mg "is_stretch" = some (.ref fS)) (bS : Binds K fdS ["value"] []) : FnOk P w K mg base CX0 9 f fd ["self", "value"] (spHas K) := by
  have GS : FnOk P w K mg base CX0 8 fS fdS ["value"] (spIsStretch K) := ok_isStretch FS L.C
  obtain ⟨fO, fdO, mO, GO, bO⟩ := L.outer
  obtain ⟨fA, fdA, GA, gA, bA, kA⟩ := L.C.ahead
  have T := L.T
  refine F.ok scHas (fun vs H Q E h => ?_) (fun cdv A outer s H vs Q E hr h => ?_)
  · obtain ⟨s, x, rfl, _⟩ := h
    rfl
  · obtain ⟨s, x, rfl, h⟩ := h
    refine ⟨_, pss_cons (ps_if (pt_not (pt_val (pe_call GS hr rfl gS FS.kp bS .nil pass0 (pa_cons (pv 1) pa_nil)))) (pss_one (ps_ret pe_bl)) pss_nil)
      (pss_cons (ps_asg (pe_meth0 (pv 0) T.cl mO GO (hr.mono (by decide)) bO .nil pass0) (pg_tup (by rfl) (pgs_cons (pg_name (i := 2) scHas.nd rfl (.inl rfl)) (pgs_cons (pg_name (i := 3) scHas.nd rfl (.inl rfl)) pgs_nil))))
      (pss_one (ps_ret (pe_and (pe_not (pe_call GA (hr.mono (by decide)) rfl gA kA bA .nil pass0 (pa_cons (pe_ix ix_tup (pv 1) pe_int (fun _ _ => rfl)) (pa_cons (pv 2) pa_nil))))
        (pe_one (pe_not (pe_call GA (hr.mono (by decide)) rfl gA kA bA .nil pass0 (pa_cons (pv 3) (pa_cons (pe_ix ix_tup (pv 1) pe_int (fun _ _ => rfl)) pa_nil))))))))), ?_⟩
    rcases h with ⟨q, r, y, z, b, c, hs, hx, sq, sr, sy, sz, k⟩ | ⟨ty, k⟩
    · refine ⟨_, rfl, x, rfl, .inl ⟨y, b, z, c, hx, sy, sz, fun H1 k1 => ⟨_, rfl, ?_⟩⟩⟩
      unfold cHas at k
      cases hA : cAhead y b z c with
      | false =>
        rw [hA] at k
        exact iteT (k H1 k1)
      | true =>
        rw [hA] at k
        refine iteF ?_
        have hs' := hs.same k1
        obtain ⟨le, dx, a, b', es, ha, hb⟩ := hs'
        refine ⟨_, rfl, s, dx, _, rfl, es, rfl, s, q, r, rfl, hs.same k1, fun x1 H2 k2 hx1 => ?_⟩
        obtain ⟨t, u, v, rfl, ht, hu, hv⟩ := hx1
        refine ⟨t, _, rfl, SqT.of ht, rfl, _, _, rfl, _, _, rfl, rfl, ?_⟩
        obtain ⟨t', u', v', rfl, ht', hu', hv'⟩ := (hx.same k1).same k2
        have k12 := k1.trans k2
        refine ⟨_, rfl, t', _, _, u', rfl, rfl, SqT.of ht', rfl, _, rfl, u', u, y, q, b, false, rfl, hu', hu, sy, sq, fun H3 k3 => ⟨_, rfl, ?_⟩⟩
        cases hB : cAhead y b q false with
        | true =>
          rw [hB] at k
          exact ⟨_, rfl, iteF (k H3 (k12.trans k3))⟩
        | false =>
          rw [hB] at k
          exact ⟨_, rfl, iteT ⟨_, rfl, _, rfl, t', _, _, v', rfl, rfl, SqT.of (k3 _ _ ht'), rfl, v, v', r, z, true, c, rfl, hv.same k3, hv'.same k3, sr, sz, fun H4 k4 => ⟨_, rfl, k H4 ((k12.trans k3).trans k4)⟩⟩⟩
    · exact ⟨_, rfl, x, rfl, .inr ⟨ty, _, rfl, iteT k⟩⟩
/-! ### __contains__ -/
def spHolds (K : PySem.W.Frag) : Sp := fun vs H Q _ => ∃ (s : Addr) (x : V) (q r z : Rat), vs = [.ref s, x] ∧ RngAt K H s q r ∧ NumAt K H x z ∧ Sz 100000 q ∧ Sz 100000 r ∧ Sz 100000 z ∧ ∀ H', Same H H' → Q (.bl (!rBelow r z && !rBelow z q)) H'
theorem scHolds : FnScope ["self", "value"] ["self", "value"] (defScope (sRange 7)) := ⟨rfl, rfl, rfl, by decide +kernel, rfl, by decide +kernel, by decide +kernel⟩
theorem ok_holds {f : Addr} {fd : FuncData} (F : FunD K "__contains__" "Range.__contains__" (defArgs (sRange 7)) (defBody (sRange 7)) (defScope (sRange 7)) [] [] f fd) (L : RL P w K mg base) : FnOk P w K mg base CX0 6 f fd ["self", "value"] (spHolds K) := by
  obtain ⟨mc, pp, fo, cr, cm, GO⟩ := L.C.J.I.R.of
  obtain ⟨fB, fdB, mB, GB, bB⟩ := L.C.J.I.below
  obtain ⟨fN, fdN, GN, gN, bN, kN⟩ := L.C.J.I.isNum
  have TR := L.C.J.I.R.G.T
  have T := L.T
  refine F.ok scHolds (fun vs H Q E h => ?_) (fun cdv A outer s H vs Q E hr h => ?_)
  · obtain ⟨s, x, q, r, z, rfl, _⟩ := h
    rfl
  · obtain ⟨s, x, q, r, z, rfl, hs, hx, sq, sr, sz, k⟩ := h
    refine ⟨_, pss_one (ps_ret (pe_and (pe_call GN (hr.mono (by decide)) rfl gN kN bN .nil pass0 (pa_cons (pv 1) pa_nil))
      (pe_and (pe_not (pe_meth (pe_fld (pv 0) rfl) TR.cl mB GB hr bB .nil pass0 (pa_cons (pv 1) pa_nil)))
      (pe_one (pe_not (pe_meth (ClX.pe_cmeth (pe_glob (v := .ref (aR K)) rfl TR.gR rfl) cr cm GO (hr.mono (by decide)) pass0 (pa_cons (pv 1) pa_nil)) TR.cl mB GB hr bB .nil pass0 (pa_cons (pe_fld (pv 0) rfl) pa_nil))))))), ?_⟩
    have hs' := hs
    obtain ⟨le, dx, a, b, es, ⟨da, ea⟩, ⟨db, eb⟩⟩ := hs'
    refine ⟨_, rfl, x, z, rfl, hx, true, rfl, iteT ?_⟩
    refine ⟨_, rfl, s, _, dx, _, _, rfl, es, T.cl, T.nH, rfl, b, db, _, rfl, eb, rfl, _, rfl, b, x, r, z, rfl, ⟨db, eb⟩, hx, sr, sz, fun H1 k1 => ⟨_, rfl, ?_⟩⟩
    cases hA : rBelow r z with
    | true =>
      rw [hA] at k
      exact ⟨_, rfl, iteF (k H1 k1)⟩
    | false =>
      rw [hA] at k
      refine ⟨_, rfl, iteT ⟨rfl, _, rfl, x, z, rfl, hx.same k1, fun p H2 k2 hp => ?_⟩⟩
      have k12 := k1.trans k2
      obtain ⟨dp, ep⟩ := hp
      exact ⟨p, dp, _, rfl, ep, rfl, _, rfl, s, _, dx, _, _, rfl, k12 _ _ es, T.cl, T.nL, rfl, p, .ref a, z, q, rfl, ⟨dp, ep⟩, .inr ⟨a, rfl, da, k12 _ _ ea⟩, sz, sq, fun H3 k3 => ⟨_, rfl, k H3 (k12.trans k3)⟩⟩
end
end K18
set_option maxHeartbeats 4000000
namespace K18
open PySem PySem.Spec PyProof.Rows L2 GL
section
variable {P : Program} {w : World} {K : PySem.W.Frag} {mg : Str → Option Value} {base : Heap}
/-- two Ratios compared as a value, a == b -/
theorem eqR {H : Hp} {x y : Addr} {q r : Rat} {Q : VK} {E : XK} (T : RF K mg) (hx : RatAt K H x q) (hy : RatAt K H y r) (k : Q (.bl (decide (q = r))) H) : rOwnE K (aR K) (spREq K) E (.ref x) (.ref y) H Q := by
  obtain ⟨dx, ex⟩ := hx
  exact ⟨x, dx, _, .ref (aR K), rfl, ex, hy.ty T, (by unfold PySem.W.notFirst; rw [beq_self_eq_true, Bool.true_or]), x, .ref y, q, rfl, ⟨dx, ex⟩, .inl ⟨y, r, rfl, hy, k⟩⟩
/-! ### Range.__eq__ -/
def spGEq (K : PySem.W.Frag) : Sp := fun vs H Q _ => ∃ (s : Addr) (y : V) (q r : Rat), vs = [.ref s, y] ∧ RngAt K H s q r ∧
  ((∃ t q2 r2, y = .ref t ∧ RngAt K H t q2 r2 ∧ Q (.bl (decide (q = q2) && decide (r = r2))) H) ∨ ∃ t, TyX K H y t ∧ PySem.W.kitOne K t (.ref (aG K)) = some false ∧ Q (.bl false) H)
theorem scGEq : FnScope ["self", "other"] ["self", "other"] (defScope (sRange 8)) := ⟨rfl, rfl, rfl, by decide +kernel, rfl, by decide +kernel, by decide +kernel⟩
theorem ok_gEq {f : Addr} {fd : FuncData} (F : FunD K "__eq__" "Range.__eq__" (defArgs (sRange 8)) (defBody (sRange 8)) (defScope (sRange 8)) [] [] f fd) (I : RI P w K mg base) (T : GF K mg) : FnOk P w K mg base CX0 2 f fd ["self", "other"] (spGEq K) := by
  obtain ⟨fE, oE, GE⟩ := I.eq
  have TR := I.R.G.T
  refine F.ok scGEq (fun vs H Q E h => ?_) (fun cdv A outer s H vs Q E hr h => ?_)
  · obtain ⟨s, y, q, r, rfl, _⟩ := h
    rfl
  · obtain ⟨s, y, q, r, rfl, hs, h⟩ := h
    refine ⟨_, pss_one (ps_ret (pe_and (pe_callB call_isi (by rfl) TR.isi (by decide +kernel) (pa_cons (pv 1) (pa_cons (pe_glob (v := .ref (aG K)) rfl T.gG rfl) pa_nil)))
      (pe_and (pe_cmpR (op_eqO oE GE hr pass0) (pe_fld (pv 0) rfl) (pe_fld (pv 1) rfl) (nomark _)) (pe_one (pe_cmpR (op_eqO oE GE hr pass0) (pe_fld (pv 0) rfl) (pe_fld (pv 1) rfl) (nomark _)))))), ?_⟩
    rcases h with ⟨t, q2, r2, rfl, ht, k⟩ | ⟨t, ty, kt, k⟩
    · refine ⟨_, rfl, .ref t, .ref (aG K), .ref (aG K), _, true, rfl, .own _, ht.ty T, (by unfold PySem.W.kitOne; rw [if_pos (beq_self_eq_true _)]), true, rfl, iteT ?_⟩
      obtain ⟨_, dx, a, b, es, ha, hb⟩ := hs
      obtain ⟨_, dy, a2, b2, et, ha2, hb2⟩ := ht
      refine ⟨_, rfl, s, _, dx, _, _, rfl, es, T.cl, T.nL, rfl, _, rfl, t, _, dy, _, _, rfl, et, T.cl, T.nL, rfl, eqR TR ha ha2 ⟨_, rfl, ?_⟩⟩
      cases hA : decide (q = q2) with
      | false =>
        rw [hA] at k
        exact iteF k
      | true =>
        rw [hA] at k
        exact iteT ⟨_, rfl, s, _, dx, _, _, rfl, es, T.cl, T.nH, rfl, _, rfl, t, _, dy, _, _, rfl, et, T.cl, T.nH, rfl, eqR TR hb hb2 k⟩
    · exact ⟨_, rfl, y, .ref (aG K), t, _, false, rfl, .own _, ty, kt, false, rfl, iteF k⟩
end
end K18
set_option maxHeartbeats 4000000
namespace K18
open PySem PySem.Spec PyProof.Rows L2 GL
/-- all but one thing stand -/
def Kp (s : Addr) (H H' : Hp) : Prop := ∀ c o, c ≠ s → H c = some o → H' c = some o
theorem Kp.put {s : Addr} {H H' : Hp} {o : HO} (k : Kp s H H') : Kp s H (upd H' s o) := fun c o' hc e => by rw [upd_ne hc]; exact k c o' hc e
theorem Kp.same {s : Addr} {H H' H'' : Hp} (k : Kp s H H') (j : Same H' H'') : Kp s H H'' := fun c o' hc e => j _ _ (k c o' hc e)
theorem notRat {K : PySem.W.Frag} {H : Hp} {s C dx a : Addr} {fs : List (Str × V)} {q : Rat} (e : H s = some (.ins C dx fs)) (hf : fs.lookup ("_top" : Str) = none) (h : RatAt K H a q) : a ≠ s := by
  obtain ⟨da, ea⟩ := h
  rintro rfl
  rw [e] at ea
  have z := ins_fs ea
  rw [z] at hf
  cases hf
theorem RatAt.kp {K : PySem.W.Frag} {H H' : Hp} {s a : Addr} {q : Rat} (h : RatAt K H a q) (ne : a ≠ s) (k : Kp s H H') : RatAt K H' a q := by
  obtain ⟨da, ea⟩ := h
  exact ⟨da, k _ _ ne ea⟩
theorem NumAt.kp {K : PySem.W.Frag} {H H' : Hp} {s C dx : Addr} {fs : List (Str × V)} {x : V} {q : Rat} (h : NumAt K H x q) (e : H s = some (.ins C dx fs)) (hf : fs.lookup ("_top" : Str) = none) (k : Kp s H H') : NumAt K H' x q := by
  rcases h with h | ⟨p, ex, hp⟩
  · exact .inl h
  · exact .inr ⟨p, ex, hp.kp (notRat e hf hp) k⟩
section
variable {P : Program} {w : World} {K : PySem.W.Frag} {mg : Str → Option Value} {base : Heap}
/-! ### the checks -/
end
end K18
set_option maxHeartbeats 1000000
namespace K18
open PySem PySem.Spec PyProof.Rows L2 GL
/-! ### what the program's arithmetic is -/
theorem rBelow_iff {q r : Rat} : rBelow q r = true ↔ q < r := by
  unfold rBelow
  rw [decide_eq_true_iff, Rat.lt_iff]
theorem rBelow_not {q r : Rat} : rBelow q r = false ↔ r ≤ q := by
  rw [← Rat.not_lt, ← rBelow_iff, Bool.not_eq_true]
theorem rAdd_eq (q r : Rat) : rAdd q r = q + r := by
  have h := Rat.divInt_add_divInt q.num r.num (den_ne q) (den_ne r)
  rw [Rat.num_divInt_den, Rat.num_divInt_den] at h
  exact h.symm
theorem rMul_eq (q r : Rat) : rMul q r = q * r := by
  have h := Rat.divInt_mul_divInt q.num r.num (d₁ := (q.den : Int)) (d₂ := (r.den : Int))
  rw [Rat.num_divInt_den, Rat.num_divInt_den] at h
  exact h.symm
theorem rNeg_eq (q : Rat) : rNeg q = -q := by
  have h := Rat.neg_divInt q.num (q.den : Int)
  rw [Rat.num_divInt_den] at h
  exact h.symm
theorem rSub_eq (q r : Rat) : rSub q r = q - r := by
  have h := rAdd_eq q (-r)
  rw [← Rat.sub_eq_add_neg] at h
  rw [← h]
  unfold rSub rAdd
  rw [Rat.neg_num, Rat.neg_den, Int.neg_mul, ← Int.sub_eq_add_neg]
theorem rOver_eq (q r : Rat) : rOver q r = q / r := by
  have h := Rat.divInt_mul_divInt q.num (r.den : Int) (d₁ := (q.den : Int)) (d₂ := r.num)
  have e := Rat.inv_divInt r.num (r.den : Int)
  rw [Rat.num_divInt_den] at h e
  rw [Rat.div_def, e]
  exact h.symm
end K18
set_option maxHeartbeats 4000000
namespace K18
open PySem PySem.Spec PyProof.Rows L2 GL
theorem rAdd_sz2 {q r : Rat} {n m : Nat} (h : Sz n q) (k : Sz m r) : Sz (n + m + 1) (rAdd q r) := by
  refine divInt_sz (Int.mul_ne_zero (den_ne q) (den_ne r)) ?_ (Nat.lt_of_lt_of_le (mul_lt h.den k.den) (Nat.pow_le_pow_right (by decide) (by omega)))
  have a := mul_lt h.1 k.den
  have b := mul_lt k.1 h.den
  have c := Int.natAbs_add_le (q.num * (r.den : Int)) (r.num * (q.den : Int))
  rw [Nat.pow_succ]
  rw [Nat.add_comm m n] at b
  omega
theorem int_sz {i : Int} {n : Nat} (hn : n ≠ 0) (h : i.natAbs < 2 ^ n) : Sz n (i : Rat) := ⟨h, Nat.one_lt_two_pow hn⟩
section
variable {P : Program} {w : World} {K : PySem.W.Frag} {mg : Str → Option Value} {base : Heap}
theorem isi_self {A : Addr} : PySem.W.kitOne K (.ref A) (.ref A) = some true := by unfold PySem.W.kitOne; rw [if_pos (beq_self_eq_true _)]
/-! ### then -/
end
end K18
set_option maxHeartbeats 4000000
namespace K18
open PySem PySem.Spec PyProof.Rows L2 GL
/-- a property of a class: its record, its def's promise -/
def PropX (P : Program) (w : World) (K : PySem.W.Frag) (mg : Str → Option Value) (base : Heap) (C : Addr) (f : Str) (sp : Sp) : Prop := ∃ p g fd, PropOf K C f p g ∧ FnOk P w K mg base CX0 1 g fd ["self"] sp ∧ Binds K fd ["self"] []
/-- a method -/
def MetX (P : Program) (w : World) (K : PySem.W.Frag) (mg : Str → Option Value) (base : Heap) (C : Addr) (m : Str) (k : Nat) (ps : List Str) (sp : Sp) : Prop := ∃ f fd, Meth K C m f ∧ FnOk P w K mg base CX0 k f fd ps sp ∧ Binds K fd ps []
/-- a def of the module -/
def DefF (P : Program) (w : World) (K : PySem.W.Frag) (mg : Str → Option Value) (base : Heap) (x : Str) (k : Nat) (ps : List Str) (sp : Sp) : Prop := ∃ f fd, FnOk P w K mg base CX0 k f fd ps sp ∧ mg x = some (.ref f) ∧ Binds K fd ps [] ∧ PySem.W.keepIn K (.ref f) = true
/-- two Ratios by Ratio.__eq__ -/
def RatB (K : PySem.W.Frag) : DB := fun x y b H => ∃ a c q r, x = .ref a ∧ y = .ref c ∧ RatAt K H a q ∧ RatAt K H c r ∧ b = decide (q = r)
theorem ratAt_inj {K : PySem.W.Frag} {H : Hp} {a : Addr} {q r : Rat} (h : RatAt K H a q) (k : RatAt K H a r) : q = r := by
  obtain ⟨d, e⟩ := h
  obtain ⟨d2, e2⟩ := k
  rw [e] at e2
  have z := ins_fs e2
  injection z with z1 z2
  injection z1 with _ z1
  injection z1 with z1
  injection z2 with z2 _
  injection z2 with _ z2
  injection z2 with z2
  exact Rat.ext z1 (by omega)
/-- flat things and Ratios -/
def ThB (K : PySem.W.Frag) : DB := fun x y b H => FlatB x y b H ∨ RatB K x y b H
theorem monB_rat {K : PySem.W.Frag} : MonB (RatB K) := by
  intro x y b H H' k d
  obtain ⟨a, c, q, r, e1, e2, ha, hc, e⟩ := d
  exact ⟨a, c, q, r, e1, e2, ha.same k, hc.same k, e⟩
theorem monB_th {K : PySem.W.Frag} : MonB (ThB K) := monB_flat.or monB_rat
theorem eqB_rat {X : Cx} {f : Addr} (B : GL.OwnEq X.K (aR X.K) f) (F : FnR X.prog X.w X.K X.mg X.base CX0 1 f (spREq X.K)) : EqB X 1 (RatB X.K) := by
  have z := eqB_ins (E := fun _ _ _ => False) B F (X := X) (pass0 (X := X))
  intro A pins s σ H x y u v b sb I rx ry d
  refine z A pins s σ H x y u v b sb I rx ry ?_
  obtain ⟨a, c, q, r, rfl, rfl, ha, hc, rfl⟩ := d
  obtain ⟨da, ea⟩ := id ha
  obtain ⟨dc, ec⟩ := id hc
  refine ⟨a, c, da, dc, _, _, rfl, rfl, ea, ec, ?_, a, .ref c, q, rfl, ha, .inl ⟨c, r, rfl, hc, rfl, fun _ _ e => e⟩⟩
  rintro rfl
  exact decide_eq_true (ratAt_inj ha hc)
theorem eqB_th {X : Cx} {f : Addr} (B : GL.OwnEq X.K (aR X.K) f) (F : FnR X.prog X.w X.K X.mg X.base CX0 1 f (spREq X.K)) : EqB X 1 (ThB X.K) := (eqB_flat.mono (by decide)).or (eqB_rat B F)
section
variable {P : Program} {w : World} {K : PySem.W.Frag} {mg : Str → Option Value} {base : Heap}
/-! ### form -/
end
end K18
set_option maxHeartbeats 4000000
namespace K18
open PySem PySem.Spec PyProof.Rows L2 GL
section
variable {P : Program} {w : World} {K : PySem.W.Frag} {mg : Str → Option Value} {base : Heap}
/-! ### Move.__eq__ -/
/-! ### the parts told -/
theorem scR4 : FnScope ["self"] ["self"] (defScope (sRatio 4)) := ⟨rfl, rfl, rfl, by decide +kernel, rfl, by decide +kernel, by decide +kernel⟩
theorem ok_top {f : Addr} {fd : FuncData} (F : FunD K "top" "Ratio.top" (defArgs (sRatio 4)) (defBody (sRatio 4)) (defScope (sRatio 4)) [] [] f fd) (T : RF K mg) : FnOk P w K mg base CX0 1 f fd ["self"] (fun vs H Q _ => ∃ (a : Addr) (q : Rat), vs = [.ref a] ∧ RatAt K H a q ∧ Q (.int q.num) H) := by
  refine F.ok scR4 (fun vs H Q E h => ?_) (fun cdv A outer s H vs Q E hr h => ?_)
  · obtain ⟨a, q, rfl, _⟩ := h
    rfl
  · obtain ⟨a, q, rfl, ⟨d, e⟩, k⟩ := h
    exact ⟨_, pss_one (ps_ret (pe_fld (pv 0) rfl)), _, rfl, a, _, d, _, _, rfl, e, T.cl, T.nT, rfl, k⟩
theorem scR5 : FnScope ["self"] ["self"] (defScope (sRatio 5)) := ⟨rfl, rfl, rfl, by decide +kernel, rfl, by decide +kernel, by decide +kernel⟩
theorem ok_bottom {f : Addr} {fd : FuncData} (F : FunD K "bottom" "Ratio.bottom" (defArgs (sRatio 5)) (defBody (sRatio 5)) (defScope (sRatio 5)) [] [] f fd) (T : RF K mg) : FnOk P w K mg base CX0 1 f fd ["self"] (fun vs H Q _ => ∃ (a : Addr) (q : Rat), vs = [.ref a] ∧ RatAt K H a q ∧ Q (.int (q.den : Int)) H) := by
  refine F.ok scR5 (fun vs H Q E h => ?_) (fun cdv A outer s H vs Q E hr h => ?_)
  · obtain ⟨a, q, rfl, _⟩ := h
    rfl
  · obtain ⟨a, q, rfl, ⟨d, e⟩, k⟩ := h
    exact ⟨_, pss_one (ps_ret (pe_fld (pv 0) rfl)), _, rfl, a, _, d, _, _, rfl, e, T.cl, T.nB, rfl, k⟩
end
end K18
set_option maxHeartbeats 4000000
/-! xs[::-1] of a list. -/
namespace GL
open PySem PySem.Spec PyProof.Rows L2
/-- a new list, the other way round -/
def tRev (K : PySem.W.Frag) (te : TE) (tk : TO) : TE := fun z H Q => te z H fun x H1 => tk z H1 fun k H2 => k = some (-1) ∧ ∃ a xs, x = .ref a ∧ SqL K H2 a xs ∧ ∀ p, H2 p = none → Q (.ref p) (upd H2 p (.lst xs.reverse))
theorem pe_rev {X : Cx} {e st : Expr} {te : TE} {tk : TO} {pos p2 : Pos} (he : PE X e te) (hk : PO X (some st) tk)
    (hs : ∀ a l : Addr, subscripted (.Slice none none (some st) p2) false (.ref a) (.ref l) = operate [.ref a, .ref l] (getItem (.ref a) (.ref l)) := by intros; with_unfolding_all rfl) : PE X (.Subscript e (.Slice none none (some st) p2) pos) (tRev X.K te tk) := by
  constructor
  intro pins s z H Q I h
  apply Subscript_
  refine thn (he.run pins s z H _ I h) ?_
  rintro v s1 ⟨x, H1, I1, r1, q1⟩
  apply wpAny_Slice
  rw [evalPart_none]
  apply wpAny_pure
  apply wpAny_pure
  refine thn (hk.run pins s1 z H1 _ I1 q1) ?_
  rintro vk s2 ⟨k, H2, I2, pk, rfl, a, xs, rfl, hx, q⟩
  cases (show v = Value.ref a from r1)
  have I3 : Inv X pins z H2 { s2 with heap := s2.heap.push { cls := .type "slice", data := .fields #[.none, .none, vk] } } := I2.kept (t' := s2.toks) fun b o y => Heap.get?_push_of_some _ y
  obtain ⟨its, r, ht, hz⟩ := I3.list hx
  have hlen := r.length
  show wpAny (model X.prog X.w) X.A (subscriptTail e (.Slice none none (some st) p2) (.ref a) (.ref s2.heap.objs.size)) (EP X pins z Q) X.xe { s2 with heap := s2.heap.push { cls := .type "slice", data := .fields #[.none, .none, vk] } }
  refine tail_any (ops := [.ref a, .ref s2.heap.objs.size]) ht.isList.typeIs slot_list_getitem.lookup ?_ (hs _ _)
  refine wpAny_getItem_list_slice ht.isList (Heap.IsSliceOf.new ..) .none .none pk (by decide) ?_ (by rw [List.size_toArray]; omega)
  rw [PySem.W.krv_pick]
  refine ⟨.ref _, _, I3.laid (t' := s2.toks) (o := .lst xs.reverse) (fun b o y => Heap.get?_push_of_some _ y) (Nat.le_refl _) ?_, rfl, q _ (I3.hok.fresh (Nat.le_refl _))⟩
  refine ⟨by rw [List.length_reverse]; omega, its.reverse, 0, paired_rev r, Heap.get?_push_size _ rfl⟩
/-! ### a statement, its end told once for all its ways -/
def tCut (t u : TS) : TS := fun D z H => ∃ Mid : L2.St → Hp → Prop, t { D with nx := Mid } z H ∧ ∀ z' H', Mid z' H' → u D z' H'
theorem pss_cut {X : Cx} {st : Stmt} {rest : List Stmt} {t u : TS} (one : PS X st t) (more : PSs X rest u) : PSs X (st :: rest) (tCut t u) := by
  constructor
  intro pins s z H D I ⟨Mid, first, go⟩
  apply wpAny_execs_cons
  refine thn (one.run pins s z H { D with nx := Mid } I first) ?_
  intro f s1 q
  match f, q with
  | .ret v, q => exact q
  | .brk, q => exact q
  | .cont, q => exact q
  | .next, ⟨z', H', J, m⟩ => exact more.run pins s1 z' H' D J (go z' H' m)
end GL
set_option maxHeartbeats 4000000
namespace K18
open PySem PySem.Spec PyProof.Rows L2 GL
abbrev sRng : Stmt := tp 27
abbrev sDraw : Stmt := tp 28
abbrev sChoice : Stmt := tp 29
/-- names of Python's own that the module leaves alone -/
structure Free (mg : Str → Option Value) : Prop where
  len : mg "len" = none
  abs : mg "abs" = none
  max : mg "max" = none
  min : mg "min" = none
  int : mg "int" = none
  divmod : mg "divmod" = none
  range : mg "range" = none
  all : mg "all" = none
  str : mg "str" = none
  list : mg "list" = none
  repr : mg "repr" = none
  any : mg "any" = none
/-- the state of a drawing: a list of two numbers -/
def Rng (H : Hp) (p : Addr) : Prop := ∃ x y : Int, H p = some (.lst [.int x, .int y]) ∧ 0 ≤ y ∧ y < 2 ^ 40
def spRng (K : PySem.W.Frag) : Sp := fun vs H Q _ => ∃ (a : Addr) (ns : List Int) (i : Int), vs = [.ref a, .int i] ∧ SqL K H a (ns.map V.int) ∧ 0 ≤ i ∧ i < 100 ∧
  ∀ p H', H p = none → Same H H' → Rng H' p → Q (.ref p) H'
section
variable {P : Program} {w : World} {K : PySem.W.Frag} {mg : Str → Option Value} {base : Heap}
theorem scRng : FnScope ["_law_script", "_law_spot", "_law_cell"] ["_law_script", "_law_spot"] (defScope sRng) := ⟨rfl, rfl, rfl, by decide +kernel, rfl, by decide +kernel, by decide +kernel⟩
theorem fm_bd (a : Int) {b : Int} (hb : 0 < b) : 0 ≤ a.fmod b ∧ a.fmod b < b := by
  rw [Int.fmod_eq_emod_of_nonneg _ (by omega)]
  exact ⟨Int.emod_nonneg _ (by omega), Int.emod_lt_of_pos _ hb⟩
theorem ok_rng {f : Addr} {fd : FuncData} (F : Fun K "_law_rng" "_law_rng" sRng f fd) (T : Free mg) : FnOk P w K mg base CX0 1 f fd ["_law_script", "_law_spot"] (spRng K) := by
  refine F.ok scRng (fun vs H Q E h => ?_) (fun cdv A outer s H vs Q E hr h => ?_)
  · obtain ⟨a, ns, i, rfl, _⟩ := h
    rfl
  · obtain ⟨a, ns, i, rfl, hS, i0, i1, k⟩ := h
    refine ⟨_, pss_cons (ps_set (i := 2) scRng.nd rfl (Or.inl rfl)
        (pe_ifExp (pt_cmpR op_lt (pv 1) (pe_callB call_len_seq (by rfl) T.len PySem.boot_len (pa_cons (pv 0) pa_nil)) (nomark _))
          (pe_callB call_abs (by rfl) T.abs (by decide +kernel) (pa_cons (pe_ix ix_list (pv 0) (pv 1) (fun _ _ => rfl)) pa_nil))
          (pe_op op_add (pe_op op_mul pe_int (pv 1)) pe_int)))
      (pss_one (ps_ret (pe_lst (pa_cons (pe_callB (call_max2 rfl) (by rfl) T.max (by decide +kernel) (pa_cons pe_int (pa_cons (pe_op op_sub (pv 2) (pe_op op_pow pe_int pe_int)) pa_nil)))
        (pa_cons (pe_op op_add (pe_op op_modN (pe_callTy call_int1 (by rfl) T.int (by decide +kernel) (pa_cons
          (pe_op op_add (pe_op op_add (pe_op op_mul (pe_op op_modN (pe_callTy call_int1 (by rfl) T.int (by decide +kernel) (pa_cons (pv 2) pa_nil)) pe_int) pe_int) (pe_op op_mul pe_int (pv 1))) pe_int) pa_nil)) pe_int) pe_int) pa_nil))))), ?_⟩
    refine ⟨_, rfl, _, rfl, _, _, rfl, .inl hS, _, _, rfl, rfl, _, rfl, ?_⟩
    refine ite2 (fun c => ?_) (fun c => ?_)
    · have c' : i < ((ns.map V.int).length : Int) := of_decide_eq_true c
      obtain ⟨j, rfl⟩ : ∃ j : Nat, i = (j : Int) := ⟨i.toNat, by omega⟩
      have hj : j < ns.length := by rw [List.length_map] at c'; omega
      refine ⟨_, rfl, _, rfl, a, _, _, V.int ns[j], rfl, rfl, hS, atI_nat (by rw [List.getElem?_map, List.getElem?_eq_getElem hj]; rfl), _, rfl, ?_⟩
      generalize (if ns[j] < 0 then -ns[j] else ns[j]) = c
      (refine ⟨_, rfl, _, _, rfl, rfl, ⟨by decide, by decide, by decide⟩, _, _, rfl, rfl, _, _, rfl, _, rfl, .inl ⟨_, rfl, _, _, rfl, rfl, (by show (2147483543 : Int) ≠ 0; decide), _, _, rfl, rfl, .inr ⟨by decide, by decide⟩,
        _, rfl, _, _, rfl, rfl, .inl ⟨by decide, by decide⟩, _, _, rfl, rfl, _, _, rfl, rfl, .inl ⟨_, rfl, _, _, rfl, rfl, (by show (2147483629 : Int) ≠ 0; decide), _, _, rfl, rfl, by show 2 ≤ sizeLine; decide, fun p hp => ?_⟩⟩⟩
       refine k p _ hp (fun b o e => by rw [upd_ne (ne_of_none e hp)]; exact e) ⟨_, _, upd_same, ?_⟩
       have q := fm_bd (c.fmod 2147483543 * 39373 + 52361 * (j : Int) + 29) (b := 2147483629) (by decide)
       exact ⟨by omega, by omega⟩)
    · refine ⟨_, rfl, _, _, rfl, rfl, .inl ⟨by decide, by decide⟩, _, _, rfl, rfl, ?_⟩
      (refine ⟨_, rfl, _, _, rfl, rfl, ⟨by decide, by decide, by decide⟩, _, _, rfl, rfl, _, _, rfl, _, rfl, .inl ⟨_, rfl, _, _, rfl, rfl, (by show (2147483543 : Int) ≠ 0; decide), _, _, rfl, rfl, .inr ⟨by decide, by decide⟩,
        _, rfl, _, _, rfl, rfl, .inl ⟨by decide, by decide⟩, _, _, rfl, rfl, _, _, rfl, rfl, .inl ⟨_, rfl, _, _, rfl, rfl, (by show (2147483629 : Int) ≠ 0; decide), _, _, rfl, rfl, by show 2 ≤ sizeLine; decide, fun p hp => ?_⟩⟩⟩
       refine k p _ hp (fun b o e => by rw [upd_ne (ne_of_none e hp)]; exact e) ⟨_, _, upd_same, ?_⟩
       have q := fm_bd ((11 * i + 4).fmod 2147483543 * 39373 + 52361 * i + 29) (b := 2147483629) (by decide)
       exact ⟨by omega, by omega⟩)
/-! ### a number drawn -/
def spDraw : Sp := fun vs H Q _ => ∃ (p : Addr) (m : Int), vs = [.ref p, .int m] ∧ Rng H p ∧ 0 < m ∧ m < 1000000000 ∧
  ∀ d H', 0 ≤ d → d < m → (∀ b o, H b = some o → b ≠ p → H' b = some o) → Rng H' p → Q (.int d) H'
theorem scDraw : FnScope ["_law_rng_here", "_law_many", "_law_digit"] ["_law_rng_here", "_law_many"] (defScope sDraw) := ⟨rfl, rfl, rfl, by decide +kernel, rfl, by decide +kernel, by decide +kernel⟩
theorem ok_draw {f : Addr} {fd : FuncData} (F : Fun K "_law_draw" "_law_draw" sDraw f fd) (T : Free mg) : FnOk P w K mg base CX0 1 f fd ["_law_rng_here", "_law_many"] spDraw := by
  refine F.ok scDraw (fun vs H Q E h => ?_) (fun cdv A outer s H vs Q E hr h => ?_)
  · obtain ⟨p, m, rfl, _⟩ := h
    rfl
  · obtain ⟨p, m, rfl, ⟨x, y, hp, y0, y1⟩, m0, m1, k⟩ := h
    refine ⟨_, pss_cons (ps_if (pt_cmpR op_gt (pe_ix ix_list (pv 0) pe_int (fun _ _ => rfl)) pe_int (nomark _))
        (pss_cons (ps_asg (pe_callB call_divmod (by rfl) T.divmod (by decide +kernel) (pa_cons (pe_ix ix_list (pv 0) pe_int (fun _ _ => rfl)) (pa_cons (pv 1) pa_nil)))
            (pg_tup (by rfl) (pgs_cons (pg_sub (pv 0) pe_int set_list) (pgs_cons (pg_name (i := 2) scDraw.nd rfl (.inl rfl)) pgs_nil))))
          (pss_one (ps_ret (pv 2)))) pss_nil)
      (pss_cons (ps_asg (pe_op op_modN (pe_callTy call_int1 (by rfl) T.int (by decide +kernel) (pa_cons (pe_op op_add (pe_op op_mul (pe_ix ix_list (pv 0) pe_int (fun _ _ => rfl)) pe_int) pe_int) pa_nil)) pe_int) (pg_sub (pv 0) pe_int set_list))
        (pss_one (ps_ret (pe_op op_modN (pe_callTy call_int1 (by rfl) T.int (by decide +kernel) (pa_cons (pe_op op_fdiv (pe_op op_modN (pe_callTy call_int1 (by rfl) T.int (by decide +kernel)
          (pa_cons (pe_op op_mul (pe_ix ix_list (pv 0) pe_int (fun _ _ => rfl)) (pe_ix ix_list (pv 0) pe_int (fun _ _ => rfl))) pa_nil)) pe_int) pe_int) pa_nil)) (pv 1))))), ?_⟩
    refine ⟨_, rfl, p, _, _, _, rfl, rfl, SqL.of hp, rfl, _, _, rfl, rfl, _, rfl, ?_⟩
    refine ite2 (fun c => ?_) (fun c => ?_)
    · refine ⟨_, rfl, p, _, _, _, rfl, rfl, SqL.of hp, rfl, _, rfl, ?_⟩
      refine ⟨_, _, rfl, ⟨m0, by omega⟩, fun t ht => ?_⟩
      have hpt : p ≠ t := ne_of_none hp ht
      refine ⟨t, _, rfl, SqT.of upd_same, rfl, _, _, rfl, _, rfl, p, _, _, 0, rfl, rfl, by rw [upd_ne hpt]; exact hp, rfl, _, _, rfl, rfl, _, rfl, ?_⟩
      refine k _ _ (Int.emod_nonneg _ (by omega)) (Int.emod_lt_of_pos _ m0) (fun b o e hb => by rw [upd_ne hb, upd_ne (ne_of_none e ht)]; exact e) ⟨_, _, upd_same, y0, y1⟩
    · refine ⟨_, rfl, p, _, _, _, rfl, rfl, SqL.of hp, rfl, _, _, rfl, rfl, .inr ⟨by decide, by decide⟩, _, _, rfl, rfl, .inl ⟨_, rfl, _, _, rfl, rfl, (by show (2147483587 : Int) ≠ 0; decide), _, rfl, p, _, _, 1, rfl, rfl, hp, rfl, ?_⟩⟩
      have q := fm_bd (y * 48271 + 12227) (b := 2147483587) (by decide)
      refine ⟨_, rfl, p, _, _, _, rfl, rfl, SqL.of upd_same, rfl, _, rfl, p, _, _, _, rfl, rfl, SqL.of upd_same, rfl, _, _, rfl, rfl, .inl ⟨by omega, by omega⟩, .inl ⟨_, rfl, _, _, rfl, rfl, (by show (2147483549 : Int) ≠ 0; decide), _, _, rfl, rfl, ⟨by decide, by decide⟩,
        .inl ⟨_, rfl, _, rfl, _, _, rfl, rfl, (by show m ≠ 0; omega), ?_⟩⟩⟩
      have r := fm_bd (((y * 48271 + 12227).fmod 2147483587 * (y * 48271 + 12227).fmod 2147483587).fmod 2147483549 / 13) m0
      exact k _ _ r.1 r.2 (fun b o e hb => by rw [upd_ne hb]; exact e) ⟨_, _, upd_same, by omega, by omega⟩

/-! ### one of several -/
def spChoice (K : PySem.W.Frag) : Sp := fun vs H Q _ => ∃ (p l : Addr) (xs : List V), vs = [.ref p, .ref l] ∧ Rng H p ∧ H l = some (.lst xs) ∧ l ≠ p ∧ 0 < xs.length ∧ xs.length < 1000 ∧
  ∀ v H', v ∈ xs → (∀ b o, H b = some o → b ≠ p → H' b = some o) → Rng H' p → Q v H'
theorem scChoice : FnScope ["_law_rng_here", "_law_some"] ["_law_rng_here", "_law_some"] (defScope sChoice) := ⟨rfl, rfl, rfl, by decide +kernel, rfl, by decide +kernel, by decide +kernel⟩
theorem ok_choice {f fD : Addr} {fd fdD : FuncData} (F : Fun K "_law_choice" "_law_choice" sChoice f fd) (T : Free mg) (FD : Fun K "_law_draw" "_law_draw" sDraw fD fdD) (gD : mg "_law_draw" = some (.ref fD)) (bD : Binds K fdD ["_law_rng_here", "_law_many"] []) :
    FnOk P w K mg base CX0 2 f fd ["_law_rng_here", "_law_some"] (spChoice K) := by
  have GD : FnOk P w K mg base CX0 1 fD fdD ["_law_rng_here", "_law_many"] spDraw := ok_draw FD T
  refine F.ok scChoice (fun vs H Q E h => ?_) (fun cdv A outer s H vs Q E hr h => ?_)
  · obtain ⟨p, l, xs, rfl, _⟩ := h
    rfl
  · obtain ⟨p, l, xs, rfl, R, hl, hlp, x0, x1, k⟩ := h
    refine ⟨_, pss_one (ps_ret (pe_ix ix_list (pv 1) (pe_call GD hr rfl gD FD.kp bD .nil pass0 (pa_cons (pv 0) (pa_cons (pe_callB call_len_seq (by rfl) T.len PySem.boot_len (pa_cons (pv 1) pa_nil)) pa_nil))) (fun _ _ => rfl))), ?_⟩
    refine ⟨_, rfl, _, rfl, _, rfl, _, _, rfl, .inl (SqL.of hl), ?_⟩
    refine ⟨p, _, rfl, R, by omega, by omega, fun d H' d0 d1 kp R' => ?_⟩
    obtain ⟨j, rfl⟩ : ∃ j : Nat, d = (j : Int) := ⟨d.toNat, by omega⟩
    have hj : j < xs.length := by omega
    exact ⟨l, _, _, _, rfl, rfl, SqL.of (kp l _ hl hlp), atI_nat (List.getElem?_eq_getElem hj), k _ _ (List.getElem_mem hj) kp R'⟩
end
end K18
set_option maxHeartbeats 4000000
namespace K18
open PySem PySem.Spec PyProof.Rows L2 GL
abbrev sPlain : Stmt := tp 30
theorem plain_norm {t b : Int} (hb : b ≠ 0) : ((if b < 0 then -1 else 1) * t).fdiv (t.natAbs.gcd b.natAbs : Int) = (Rat.divInt t b).num ∧ (b.natAbs : Int).fdiv (t.natAbs.gcd b.natAbs : Int) = ((Rat.divInt t b).den : Int) := by
  have N := norm (t := t) hb
  by_cases p : 0 < b
  · rw [if_pos p] at N
    have e : (b.natAbs : Int) = b := by omega
    rw [if_neg (by omega), Int.one_mul, e]
    exact N
  · have n : b < 0 := by omega
    rw [if_neg p] at N
    have e : (b.natAbs : Int) = -b := by omega
    rw [if_pos n, Int.neg_one_mul, e]
    have f1 : (-t).fdiv (t.natAbs.gcd b.natAbs : Int) = t.fdiv (-(t.natAbs.gcd b.natAbs : Int)) := by
      rw [← Int.neg_fdiv_neg, Int.neg_neg]
    have f2 : (-b).fdiv (t.natAbs.gcd b.natAbs : Int) = b.fdiv (-(t.natAbs.gcd b.natAbs : Int)) := by
      rw [← Int.neg_fdiv_neg, Int.neg_neg]
    rw [f1, f2]
    exact N
theorem abs_is (i : Int) : (if i < 0 then -i else i) = (i.natAbs : Int) := by
  split <;> omega
section
variable {P : Program} {w : World} {K : PySem.W.Frag} {mg : Str → Option Value} {base : Heap}
def spPlain (K : PySem.W.Frag) : Sp := fun vs H Q _ => ∃ (t b : Int), vs = [.int t, .int b] ∧ b ≠ 0 ∧ t.natAbs < 2 ^ 4000 ∧ b.natAbs < 2 ^ 4000 ∧ ∀ p H', Same H H' → H p = none → H' p = some (.tup [.int (Rat.divInt t b).num, .int ((Rat.divInt t b).den : Int)]) → Q (.ref p) H'
theorem scPlain : FnScope ["_law_top", "_law_bottom", "_law_first", "_law_second", "_law_sign"] ["_law_top", "_law_bottom"] (defScope sPlain) := ⟨rfl, rfl, rfl, by decide +kernel, rfl, by decide +kernel, by decide +kernel⟩
theorem ok_plain {f : Addr} {fd : FuncData} (F : Fun K "_law_plain" "_law_plain" sPlain f fd) (T : Free mg) : FnOk P w K mg base CX0 1 f fd ["_law_top", "_law_bottom"] (spPlain K) := by
  refine F.ok scPlain (fun vs H Q E h => ?_) (fun cdv A outer s H vs Q E hr h => ?_)
  · obtain ⟨t, b, rfl, _⟩ := h
    rfl
  · obtain ⟨t, b, rfl, hb, ht, hz, k⟩ := h
    refine ⟨_, pss_cons (ps_par (i := 2) (j := 3) (by rfl) scPlain.nd rfl rfl (by decide) rfl rfl (pa_cons (pe_callB call_abs (by rfl) T.abs (by decide +kernel) (pa_cons (pv 0) pa_nil)) (pa_cons (pe_callB call_abs (by rfl) T.abs (by decide +kernel) (pa_cons (pv 1) pa_nil)) pa_nil)) (by rfl))
      (pss_cons (ps_while PassesOwn.never (pt_cmpR op_ne (pv 3) pe_int (nomark _)) (pss_one (ps_par (i := 2) (j := 3) (by rfl) scPlain.nd rfl rfl (by decide) rfl rfl (pa_cons (pv 3) (pa_cons (pe_op op_modN (pe_callTy call_int1 (by rfl) T.int (by decide +kernel) (pa_cons (pv 2) pa_nil)) (pv 3)) pa_nil)) (by rfl))))
      (pss_cons (ps_set (i := 4) scPlain.nd rfl (Or.inl rfl) (pe_ifExp (pt_cmpR op_lt (pv 1) pe_int (nomark _)) (pe_un un_neg pe_int) pe_int))
      (pss_one (ps_ret (pe_tup (pa_cons (pe_op op_fdivZ (pe_op op_mul (pv 4) (pv 0)) (pv 2)) (pa_cons (pe_op op_fdivZ (pe_callB call_abs (by rfl) T.abs (by decide +kernel) (pa_cons (pv 1) pa_nil)) (pv 2)) pa_nil))))))), ?_⟩
    refine ⟨_, rfl, _, rfl, _, rfl, _, rfl, _, _, rfl, ?_⟩
    rw [abs_is, abs_is]
    have gp : 0 < t.natAbs.gcd b.natAbs := Nat.gcd_pos_of_pos_right _ (Int.natAbs_pos.mpr hb)
    have gl : (t.natAbs.gcd b.natAbs).log2 < 9000 := log2_lt (Nat.lt_of_lt_of_le (Nat.lt_of_le_of_lt (Nat.gcd_le_right _ (Int.natAbs_pos.mpr hb)) hz) (Nat.pow_le_pow_right (by decide) (by decide))) (by decide)
    have N := plain_norm (t := t) hb
    generalize hG : t.natAbs.gcd b.natAbs = G at *
    refine ⟨fun m σ H' => ∃ f s : Nat, m = s ∧ H' = H ∧ σ = [some (.int t), some (.int b), some (.int (f : Int)), some (.int (s : Int)), none] ∧ f.gcd s = G, ⟨_, t.natAbs, b.natAbs, rfl, rfl, rfl, hG⟩, ?_⟩
    rintro s σ H1 ⟨f, s2, rfl, rfl, rfl, hg⟩
    refine ⟨_, rfl, rfl, _, rfl, ?_⟩
    by_cases z : s = 0
    · have e : (!decide (V.int (s : Int) = V.int 0)) = false := by rw [z]; rfl
      dsimp only
      rw [e]
      subst z
      rw [Nat.gcd_zero_right] at hg
      subst hg
      have fin : ∀ sg : Int, sg = (if b < 0 then -1 else 1) → tRet (tTup (tCons (tOp (rI (fun _ j => j ≠ 0 ∧ j.natAbs.log2 < 9000) fun i j => .int (i.fdiv j)) (tOp (rI (fun i j => (-(2 ^ 64) < i ∧ i < 2 ^ 64) ∨ (-(2 ^ 64) < j ∧ j < 2 ^ 64)) fun i j => .int (i * j)) (tVar 4) (tVar 0)) (tVar 2)) (tCons (tOp (rI (fun _ j => j ≠ 0 ∧ j.natAbs.log2 < 9000) fun i j => .int (i.fdiv j)) (tCB (fun xs H Q => ∃ n, xs = [V.int n] ∧ Q (.int (if n < 0 then -n else n)) H) (tCons (tVar 1) tNil)) (tVar 2)) tNil))) { nx := fun _ H' => Q .non H', rt := Q } [some (.int t), some (.int b), some (.int (f : Int)), some (.int ((0 : Nat) : Int)), some (.int sg)] H1 := by
        rintro sg rfl
        refine ⟨_, rfl, _, rfl, _, _, rfl, rfl, .inl (by split <;> decide), _, rfl, _, _, rfl, rfl, ⟨by omega, by rw [Int.natAbs_natCast]; exact gl⟩, _, rfl, _, rfl, _, rfl, _, _, rfl, rfl, ⟨by omega, by rw [Int.natAbs_natCast]; exact gl⟩, (by show 2 ≤ sizeLine; decide), fun p np => ?_⟩
        rw [abs_is]
        dsimp only
        rw [N.1, N.2]
        exact k p _ (fun b o e => by rw [upd_ne (ne_of_none e np)]; exact e) np upd_same
      refine iteF ⟨_, rfl, _, _, rfl, rfl, _, rfl, ?_⟩
      refine ite2 (fun c => ?_) (fun c => ?_)
      · exact ⟨_, rfl, fin _ (by rw [if_pos (of_decide_eq_true c)])⟩
      · exact fin _ (by rw [if_neg fun y => c (decide_eq_true y)])
    · have e : (!decide (V.int (s : Int) = V.int 0)) = true := by
        have : decide (V.int (s : Int) = V.int 0) = false := decide_eq_false fun y => by
          injection y with y
          omega
        rw [this]
        rfl
      dsimp only
      rw [e]
      refine iteT ⟨fun σ' H' => H' = H1 ∧ σ' = [some (.int t), some (.int b), some (.int (s : Int)), some (.int ((f % s : Nat) : Int)), none], ?_, ?_⟩
      · rintro σ' H' ⟨rfl, rfl⟩
        refine ⟨f % s, Nat.mod_lt _ (by omega), s, f % s, rfl, rfl, rfl, ?_⟩
        rw [← hg, Nat.gcd_comm s, ← Nat.gcd_rec, Nat.gcd_comm]
      · refine ⟨_, rfl, _, rfl, .inl ⟨_, rfl, _, rfl, _, _, rfl, rfl, (by show (s : Int) ≠ 0; omega), _, _, rfl, rfl, ?_⟩⟩
        show [some (V.int t), some (.int b), some (.int (s : Int)), some (.int ((f : Int).fmod (s : Int))), none] = _
        rw [Int.fmod_eq_emod_of_nonneg _ (by omega)]
        rfl
end
end K18
set_option maxHeartbeats 4000000
namespace K18
open PySem PySem.Spec PyProof.Rows L2 GL
abbrev sFrac : Stmt := tp 33
theorem off_kp {H H' : Hp} {p : Addr} (k : ∀ b o, H b = some o → b ≠ p → H' b = some o) : Same (off H p) H' := fun b o e => k b o (off_some e).2 (off_some e).1
theorem off_off {H H1 H2 : Hp} {p : Addr} (k : Same (off H p) H1) (j : Same (off H1 p) H2) : Same (off H p) H2 := fun b o e => j b o (off_same k b o e)
theorem Rng.ne {H : Hp} {p t : Addr} {xs : List V} (R : Rng H p) (h : H t = some (.tup xs)) : t ≠ p := by
  obtain ⟨x, y, e, _⟩ := R
  rintro rfl
  rw [e] at h
  cases h
theorem Rng.same {H H' : Hp} {p : Addr} (R : Rng H p) (k : Same H H') : Rng H' p := by
  obtain ⟨x, y, e, z⟩ := R
  exact ⟨x, y, k _ _ e, z⟩
section
variable {P : Program} {w : World} {K : PySem.W.Frag} {mg : Str → Option Value} {base : Heap}
def spFrac (K : PySem.W.Frag) : Sp := fun vs H Q _ => ∃ p : Addr, vs = [.ref p] ∧ Rng H p ∧ ∀ t q H', Same (off H p) H' → Rng H' p → H' t = some (.tup [.int q.num, .int (q.den : Int)]) → Sz 80 q → Q (.ref t) H'
theorem scFrac : FnScope ["_law_rng_here"] ["_law_rng_here"] (defScope sFrac) := ⟨rfl, rfl, rfl, by decide +kernel, rfl, by decide +kernel, by decide +kernel⟩
structure DA (P : Program) (w : World) (K : PySem.W.Frag) (mg : Str → Option Value) (base : Heap) : Prop where
  F : Free mg
  draw : DefF P w K mg base "_law_draw" 1 ["_law_rng_here", "_law_many"] spDraw
  choice : DefF P w K mg base "_law_choice" 2 ["_law_rng_here", "_law_some"] (spChoice K)
  plain : DefF P w K mg base "_law_plain" 1 ["_law_top", "_law_bottom"] (spPlain K)
theorem ok_frac {f : Addr} {fd : FuncData} (F : Fun K "_law_fraction" "_law_fraction" sFrac f fd) (D : DA P w K mg base) : FnOk P w K mg base CX0 3 f fd ["_law_rng_here"] (spFrac K) := by
  obtain ⟨fD, fdD, GD, gD, bD, kD⟩ := D.draw
  obtain ⟨fC, fdC, GC, gC, bC, kC⟩ := D.choice
  obtain ⟨fP, fdP, GP, gP, bP, kP⟩ := D.plain
  refine F.ok scFrac (fun vs H Q E h => ?_) (fun cdv A outer s H vs Q E hr h => ?_)
  · obtain ⟨p, rfl, _⟩ := h
    rfl
  · obtain ⟨p, rfl, R, k⟩ := h
    refine ⟨_, pss_cons (ps_if (pt_cmpR op_eq (pe_call GD (hr.mono (by decide)) rfl gD kD bD .nil pass0 (pa_cons (pv 0) (pa_cons pe_int pa_nil))) pe_int (nomark _))
        (pss_one (ps_ret (pe_call GP (hr.mono (by decide)) rfl gP kP bP .nil pass0 (pa_cons (pe_call GC hr rfl gC kC bC .nil pass0 (pa_cons (pv 0) (pa_cons (pe_lst (pa_cons (pe_op op_add (pe_op op_pow pe_int pe_int) pe_int) (pa_cons (pe_un un_neg (pe_op op_pow pe_int pe_int)) (pa_cons (pe_op op_mul pe_int (pe_op op_pow pe_int pe_int)) pa_nil)))) pa_nil)))
          (pa_cons (pe_op op_add pe_int (pe_call GD (hr.mono (by decide)) rfl gD kD bD .nil pass0 (pa_cons (pv 0) (pa_cons (pe_op op_pow pe_int pe_int) pa_nil)))) pa_nil))))) pss_nil)
      (pss_one (ps_ret (pe_call GP (hr.mono (by decide)) rfl gP kP bP .nil pass0 (pa_cons (pe_op op_sub (pe_call GD (hr.mono (by decide)) rfl gD kD bD .nil pass0 (pa_cons (pv 0) (pa_cons pe_int pa_nil))) pe_int)
        (pa_cons (pe_call GC hr rfl gC kC bC .nil pass0 (pa_cons (pv 0) (pa_cons (pe_lst (pa_cons pe_int (pa_cons pe_int (pa_cons pe_int (pa_cons pe_int (pa_cons pe_int (pa_cons pe_int pa_nil))))))) pa_nil))) pa_nil))))), ?_⟩
    -- the ends of both ways
    have fin : ∀ {t b : Int} {H1 : Hp}, Same (off H p) H1 → Rng H1 p → b ≠ 0 → t.natAbs < 2 ^ 80 → b.natAbs < 2 ^ 80 → spPlain K [.int t, .int b] H1 Q (fun _ _ _ => False) := by
      intro t b H1 k1 R1 hb ht hz
      refine ⟨t, b, rfl, hb, Nat.lt_of_lt_of_le ht (Nat.pow_le_pow_right (by decide) (by decide)), Nat.lt_of_lt_of_le hz (Nat.pow_le_pow_right (by decide) (by decide)), fun q H2 k2 nq e2 => ?_⟩
      exact k q _ H2 (fun b o e => k2 b o (k1 b o e)) (R1.same k2) e2 (divInt_sz hb ht hz)
    have new : ∀ {H1 : Hp} {l : Addr} {xs : List V}, H1 l = none → Rng H1 p → Same H1 (upd H1 l (.lst xs)) ∧ Rng (upd H1 l (.lst xs)) p ∧ l ≠ p := by
      intro H1 l xs nl R1
      have up : Same H1 (upd H1 l (.lst xs)) := fun b o e => by rw [upd_ne (ne_of_none e nl)]; exact e
      obtain ⟨x, y, e, z⟩ := id R1
      exact ⟨up, R1.same up, (ne_of_none e nl).symm⟩
    refine ⟨_, rfl, p, 16, rfl, R, by decide, by decide, fun d H1 d0 d1 k1 R1 => ⟨rfl, _, rfl, ?_⟩⟩
    have o1 := off_kp k1
    refine ite2 (fun c => ?_) (fun c => ?_)
    · refine ⟨_, rfl, _, _, rfl, rfl, ⟨by decide, by decide, by decide⟩, _, _, rfl, rfl, _, _, rfl, rfl, ⟨by decide, by decide, by decide⟩, _, rfl, _, _, rfl, rfl, ⟨by decide, by decide, by decide⟩, _, _, rfl, rfl, .inl ⟨by decide, by decide⟩, (by show 3 ≤ sizeLine; decide), fun l nl => ?_⟩
      obtain ⟨up, R2, nlp⟩ := new nl R1
      refine ⟨p, l, _, rfl, R2, upd_same, nlp, (by show 0 < 3; decide), (by show 3 < 1000; decide), fun v H3 hv k3 R3 => ?_⟩
      have o3 : Same (off H p) H3 := off_off o1 (fun b o e => k3 b o (up b o (off_some e).2) (off_some e).1)
      simp only [List.mem_cons, List.not_mem_nil, or_false] at hv
      obtain ⟨i, rfl, hi⟩ : ∃ i : Int, v = .int i ∧ i.natAbs < 2 ^ 80 := by
        rcases hv with rfl | rfl | rfl
        · exact ⟨_, rfl, by decide⟩
        · exact ⟨_, rfl, by decide⟩
        · exact ⟨_, rfl, by decide⟩
      refine ⟨_, rfl, _, _, rfl, rfl, ⟨by decide, by decide, by decide⟩, p, _, rfl, R3, by decide, by decide, fun e H4 e0 e1 k4 R4 => ⟨_, _, rfl, rfl, ?_⟩⟩
      have e1' : e < 1000000 := e1
      exact fin (off_off o3 (off_kp k4)) R4 (by omega) hi (Nat.lt_of_lt_of_le (by omega : (1 + e).natAbs < 2 ^ 20) (Nat.pow_le_pow_right (by decide) (by decide)))
    · refine ⟨_, rfl, p, 41, rfl, R1, by decide, by decide, fun e H2 e0 e1 k2 R2 => ⟨_, _, rfl, rfl, ?_⟩⟩
      have o2 := off_off o1 (off_kp k2)
      refine ⟨_, rfl, (by show 6 ≤ sizeLine; decide), fun l nl => ?_⟩
      obtain ⟨up, R3, nlp⟩ := new nl R2
      refine ⟨p, l, _, rfl, R3, upd_same, nlp, (by show 0 < 6; decide), (by show 6 < 1000; decide), fun v H4 hv k4 R4 => ?_⟩
      have o4 : Same (off H p) H4 := off_off o2 (fun b o e => k4 b o (up b o (off_some e).2) (off_some e).1)
      simp only [List.mem_cons, List.not_mem_nil, or_false] at hv
      obtain ⟨i, rfl, i0, i1⟩ : ∃ i : Int, v = .int i ∧ 1 ≤ i ∧ i ≤ 12 := by
        rcases hv with rfl | rfl | rfl | rfl | rfl | rfl
        · exact ⟨_, rfl, by decide, by decide⟩
        · exact ⟨_, rfl, by decide, by decide⟩
        · exact ⟨_, rfl, by decide, by decide⟩
        · exact ⟨_, rfl, by decide, by decide⟩
        · exact ⟨_, rfl, by decide, by decide⟩
        · exact ⟨_, rfl, by decide, by decide⟩
      exact fin o4 R4 (by omega) (Nat.lt_of_lt_of_le (by omega : (e - 20).natAbs < 2 ^ 5) (Nat.pow_le_pow_right (by decide) (by decide))) (Nat.lt_of_lt_of_le (by omega : i.natAbs < 2 ^ 4) (Nat.pow_le_pow_right (by decide) (by decide)))
end
end K18
set_option maxHeartbeats 4000000
namespace K18
open PySem PySem.Spec PyProof.Rows L2 GL
abbrev sSum : Stmt := tp 31
abbrev sLess : Stmt := tp 32
abbrev sReal : Stmt := tp 34
/-- a fraction of the law's own: a tuple of two numbers, in lowest terms -/
def PartAt (H : Hp) (t : Addr) (q : Rat) : Prop := H t = some (.tup [.int q.num, .int (q.den : Int)])
theorem PartAt.same {H H' : Hp} {t : Addr} {q : Rat} (h : PartAt H t q) (k : Same H H') : PartAt H' t q := k _ _ h
def DefG (P : Program) (w : World) (K : PySem.W.Frag) (mg : Str → Option Value) (base : Heap) (x : Str) (k : Nat) (ps : List Str) (sp : Sp) : Prop := ∃ f fd, FnG P w K mg base CX0 k f fd ps sp ∧ mg x = some (.ref f) ∧ Binds K fd ps [] ∧ PySem.W.keepIn K (.ref f) = true
section
variable {P : Program} {w : World} {K : PySem.W.Frag} {mg : Str → Option Value} {base : Heap}
section
variable {H H' : Hp} {p : Addr}
theorem Same.offs (k : Same H H') : Same (off H p) (off H' p) := fun a o e => by
  rw [off_ne (off_some e).1]
  exact k _ _ (off_some e).2
theorem Rng.at_off {a : Addr} {o : HO} (R : Rng H p) (e : H a = some o) (n : ∀ xs, o ≠ .lst xs) : off H p a = some o := by
  obtain ⟨x, y, ep, _⟩ := R
  exact off_of ep e (n _)
theorem RatAt.offR {a : Addr} {q : Rat} (h : RatAt K H a q) (R : Rng H p) : RatAt K (GL.off H p) a q := by
  obtain ⟨d, e⟩ := h
  exact ⟨d, R.at_off e fun _ z => nomatch z⟩
theorem RngAt.offR {g : Addr} {q r : Rat} (h : RngAt K H g q r) (R : Rng H p) : RngAt K (GL.off H p) g q r := by
  obtain ⟨l, d, a, b, e, ha, hb⟩ := h
  exact ⟨l, d, a, b, R.at_off e (fun _ z => nomatch z), ha.offR R, hb.offR R⟩
theorem PartAt.offR {t : Addr} {q : Rat} (h : PartAt H t q) (R : Rng H p) : PartAt (GL.off H p) t q := R.at_off h fun _ e => by cases e
theorem NumAt.offR {x : V} {q : Rat} (h : NumAt K H x q) (R : Rng H p) : NumAt K (GL.off H p) x q := by
  rcases h with h | ⟨a, e, h⟩
  · exact .inl h
  · exact .inr ⟨a, e, h.offR R⟩
end
theorem mul4 {i : Int} {n : Nat} {d : Nat} (hi : i.natAbs < 2 ^ n) (hd : d < 2 ^ n) (h0 : 0 < n) (h : n ≤ 1000) : CMulW i (d : Int) := wide_mul (a := n) (b := n) hi (by rw [Int.natAbs_natCast]; exact hd) h0 h0 (by omega)
/-! ### the sum of two -/
def spSum (K : PySem.W.Frag) : Sp := fun vs H Q _ => ∃ (s t : Addr) (q r : Rat), vs = [.ref s, .ref t] ∧ PartAt H s q ∧ PartAt H t r ∧ Sz 1000 q ∧ Sz 1000 r ∧ ∀ p H', Same H H' → H p = none → PartAt H' p (rAdd q r) → Q (.ref p) H'
theorem scSum : FnScope ["_law_near", "_law_far"] ["_law_near", "_law_far"] (defScope sSum) := ⟨rfl, rfl, rfl, by decide +kernel, rfl, by decide +kernel, by decide +kernel⟩
theorem ok_sum {f : Addr} {fd : FuncData} (F : Fun K "_law_sum" "_law_sum" sSum f fd) (D : DA P w K mg base) : FnOk P w K mg base CX0 2 f fd ["_law_near", "_law_far"] (spSum K) := by
  obtain ⟨fP, fdP, GP, gP, bP, kP⟩ := D.plain
  refine F.ok scSum (fun vs H Q E h => ?_) (fun cdv A outer s H vs Q E hr h => ?_)
  · obtain ⟨s, t, q, r, rfl, _⟩ := h
    rfl
  · obtain ⟨s, t, q, r, rfl, hs, ht, sq, sr, k⟩ := h
    refine ⟨_, pss_one (ps_ret (pe_call GP hr rfl gP kP bP .nil pass0 (pa_cons (pe_op op_add (pe_op op_mulW (pe_ix ix_tup (pv 0) pe_int (fun _ _ => rfl)) (pe_ix ix_tup (pv 1) pe_int (fun _ _ => rfl))) (pe_op op_mulW (pe_ix ix_tup (pv 1) pe_int (fun _ _ => rfl)) (pe_ix ix_tup (pv 0) pe_int (fun _ _ => rfl))))
      (pa_cons (pe_op op_mulW (pe_ix ix_tup (pv 0) pe_int (fun _ _ => rfl)) (pe_ix ix_tup (pv 1) pe_int (fun _ _ => rfl))) pa_nil)))), ?_⟩
    refine ⟨_, rfl, s, _, _, _, rfl, rfl, SqT.of hs, rfl, _, rfl, t, _, _, _, rfl, rfl, SqT.of ht, rfl, _, _, rfl, rfl, mul4 sq.1 sr.den (by decide) (by decide), ?_⟩
    refine ⟨_, rfl, t, _, _, _, rfl, rfl, SqT.of ht, rfl, _, rfl, s, _, _, _, rfl, rfl, SqT.of hs, rfl, _, _, rfl, rfl, mul4 sr.1 sq.den (by decide) (by decide), _, _, rfl, rfl, ?_⟩
    refine ⟨_, rfl, s, _, _, _, rfl, rfl, SqT.of hs, rfl, _, rfl, t, _, _, _, rfl, rfl, SqT.of ht, rfl, _, _, rfl, rfl, mul4 (by rw [Int.natAbs_natCast]; exact sq.den) sr.den (by decide) (by decide), ?_⟩
    have z := rAdd_sz sq sr
    refine ⟨_, _, rfl, Int.mul_ne_zero (den_ne q) (den_ne r), ?_, ?_, fun p H' k' np e => k p H' k' np e⟩
    · have a := mul_lt sq.1 sr.den
      have b := mul_lt sr.1 sq.den
      have c := Int.natAbs_add_le (q.num * (r.den : Int)) (r.num * (q.den : Int))
      have d : 2 ^ (1000 + 1000) + 2 ^ (1000 + 1000) ≤ 2 ^ 4000 := by decide +kernel
      omega
    · exact Nat.lt_of_lt_of_le (mul_lt (by rw [Int.natAbs_natCast]; exact sq.den) sr.den) (Nat.pow_le_pow_right (by decide) (by decide))
/-! ### whether one is less -/
def spLess (K : PySem.W.Frag) : Sp := fun vs H Q _ => ∃ (s t : Addr) (q r : Rat), vs = [.ref s, .ref t] ∧ PartAt H s q ∧ PartAt H t r ∧ Sz 1000 q ∧ Sz 1000 r ∧ Q (.bl (rBelow q r)) H
theorem scLess : FnScope ["_law_near", "_law_far"] ["_law_near", "_law_far"] (defScope sLess) := ⟨rfl, rfl, rfl, by decide +kernel, rfl, by decide +kernel, by decide +kernel⟩
theorem ok_less {f : Addr} {fd : FuncData} (F : Fun K "_law_less" "_law_less" sLess f fd) : FnOk P w K mg base CX0 1 f fd ["_law_near", "_law_far"] (spLess K) := by
  refine F.ok scLess (fun vs H Q E h => ?_) (fun cdv A outer s H vs Q E hr h => ?_)
  · obtain ⟨s, t, q, r, rfl, _⟩ := h
    rfl
  · obtain ⟨s, t, q, r, rfl, hs, ht, sq, sr, k⟩ := h
    refine ⟨_, pss_one (ps_ret (pe_cmpR op_lt (pe_op op_mulW (pe_ix ix_tup (pv 0) pe_int (fun _ _ => rfl)) (pe_ix ix_tup (pv 1) pe_int (fun _ _ => rfl))) (pe_op op_mulW (pe_ix ix_tup (pv 1) pe_int (fun _ _ => rfl)) (pe_ix ix_tup (pv 0) pe_int (fun _ _ => rfl))) (nomark _))), ?_⟩
    refine ⟨_, rfl, s, _, _, _, rfl, rfl, SqT.of hs, rfl, _, rfl, t, _, _, _, rfl, rfl, SqT.of ht, rfl, _, _, rfl, rfl, mul4 sq.1 sr.den (by decide) (by decide), ?_⟩
    exact ⟨_, rfl, t, _, _, _, rfl, rfl, SqT.of ht, rfl, _, rfl, s, _, _, _, rfl, rfl, SqT.of hs, rfl, _, _, rfl, rfl, mul4 sr.1 sq.den (by decide) (by decide), _, _, rfl, rfl, k⟩
/-! ### the quotient -/
/-! ### as a number of the program's, or Python's own -/
def spReal (K : PySem.W.Frag) : Sp := fun vs H Q _ => ∃ (p t : Addr) (q : Rat), vs = [.ref p, .ref t] ∧ Rng H p ∧ PartAt H t q ∧ Sz 1000 q ∧ ∀ x H', Same (off H p) H' → Rng H' p → NumAt K H' x q → Q x H'
theorem scReal : FnScope ["_law_rng_here", "_law_part"] ["_law_rng_here", "_law_part"] (defScope sReal) := ⟨rfl, rfl, rfl, by decide +kernel, rfl, by decide +kernel, by decide +kernel⟩
theorem ok_real {f : Addr} {fd : FuncData} (F : Fun K "_law_real" "_law_real" sReal f fd) (D : DA P w K mg base) (G : RG P w K mg base) : FnOk P w K mg base CX0 4 f fd ["_law_rng_here", "_law_part"] (spReal K) := by
  obtain ⟨fD, fdD, GD, gD, bD, kD⟩ := D.draw
  obtain ⟨fR, fdR, dd, MR, GR, vd, bR, bR0⟩ := G.mR
  have T := G.T
  refine F.ok scReal (fun vs H Q E h => ?_) (fun cdv A outer s H vs Q E hr h => ?_)
  · obtain ⟨p, t, q, rfl, _⟩ := h
    rfl
  · obtain ⟨p, t, q, rfl, R, ht, sq, k⟩ := h
    refine ⟨_, pss_one (ps_ret (pe_ifExp (PW.pt (pw_and (pt_cmpR op_eq (pe_ix ix_tup (pv 1) pe_int (fun _ _ => rfl)) pe_int (nomark _)) (pw_and1 (pt_cmpR op_eq (pe_call GD (hr.mono (by decide)) rfl gD kD bD .nil pass0 (pa_cons (pv 0) (pa_cons pe_int pa_nil))) pe_int (nomark _)))))
      (pe_ix ix_tup (pv 1) pe_int (fun _ _ => rfl))
      (pe_make MR GR hr rfl T.gR bR0 .nil pass0 (pa_cons (pe_ix ix_tup (pv 1) pe_int (fun _ _ => rfl)) (pa_cons (pe_ix ix_tup (pv 1) pe_int (fun _ _ => rfl)) pa_nil))))), ?_⟩
    have made : ∀ (H1 : Hp), Same (off H p) H1 → Rng H1 p → H1 t = some (.tup [.int q.num, .int (q.den : Int)]) → ∀ x dx, H1 x = none → H1 dx = none → dx ≠ x → spRInit K [.ref x, .int q.num, .int (q.den : Int)] (upd (upd H1 dx (.own x)) x (.ins (aR K) dx [])) (fun v H2 => v = .non ∧ Q (.ref x) H2) E := by
      intro H1 k1 R1 h1 x dx hx hd ne
      refine made_rat hx hd ne (den_ne q) (Nat.lt_of_lt_of_le sq.den (Nat.pow_le_pow_right (by decide) (by decide))) fun a H2 k2 _ ha => ?_
      rw [Rat.num_divInt_den] at ha
      exact k (.ref a) H2 (fun b o e => k2 b o (k1 b o e)) (R1.same k2) (.inr ⟨a, rfl, ha⟩)
    refine ⟨_, rfl, t, _, _, _, rfl, rfl, SqT.of ht, rfl, rfl, _, rfl, ?_⟩
    have tp_ : t ≠ p := R.ne ht
    have go : ∀ (H1 : Hp), Same (off H p) H1 → H1 t = some (.tup [.int q.num, .int (q.den : Int)]) := fun H1 k1 => k1 t _ (by rw [off_ne tp_]; exact ht)
    refine ite2 (fun c => ?_) (fun c => ?_)
    · have c1 : (q.den : Int) = 1 := by
        have z := of_decide_eq_true c
        injection z
      refine ⟨_, rfl, p, 2, rfl, R, by decide, by decide, fun d H1 d0 d1 k1 R1 => ⟨rfl, _, rfl, ?_⟩⟩
      have o1 := off_kp k1
      refine ite2 (fun c2 => ?_) (fun c2 => ?_)
      · refine ⟨_, rfl, t, _, _, _, rfl, rfl, SqT.of (go H1 o1), rfl, k _ H1 o1 R1 (.inl ⟨q.num, rfl, ?_⟩)⟩
        refine Rat.ext ?_ ?_
        · rw [Rat.num_intCast]
        · rw [Rat.den_intCast]
          omega
      · exact ⟨_, rfl, t, _, _, _, rfl, rfl, SqT.of (go H1 o1), rfl, _, rfl, t, _, _, _, rfl, rfl, SqT.of (go H1 o1), rfl, made H1 o1 R1 (go H1 o1)⟩
    · have o0 : Same (off H p) H := fun b o e => (off_some e).2
      exact ⟨_, rfl, t, _, _, _, rfl, rfl, SqT.of ht, rfl, _, rfl, t, _, _, _, rfl, rfl, SqT.of ht, rfl, made H o0 R ht⟩
end
end K18
set_option maxHeartbeats 4000000
namespace K18
open PySem PySem.Spec PyProof.Rows L2 GL
abbrev sIs : Stmt := tp 35
section
variable {P : Program} {w : World} {K : PySem.W.Frag} {mg : Str → Option Value} {base : Heap}
/-! ### a Ratio shows a fraction -/
def spIs (K : PySem.W.Frag) : Sp := fun vs H Q _ => ∃ (a t : Addr) (q : Rat), vs = [.ref a, .ref t] ∧ RatAt K H a q ∧ PartAt H t q ∧ Sz 1900 q ∧ ∀ H', Same H H' → Q (.bl true) H'
theorem scIs : FnScope ["_law_made", "_law_part"] ["_law_made", "_law_part"] (defScope sIs) := ⟨rfl, rfl, rfl, by decide +kernel, rfl, by decide +kernel, by decide +kernel⟩
structure IsF (P : Program) (w : World) (K : PySem.W.Frag) (mg : Str → Option Value) (base : Heap) : Prop where
  L : RL P w K mg base
  D : DA P w K mg base
  S : SysK K
  top : PropX P w K mg base (aR K) "top" (fun vs H Q _ => ∃ (a : Addr) (q : Rat), vs = [.ref a] ∧ RatAt K H a q ∧ Q (.int q.num) H)
  bottom : PropX P w K mg base (aR K) "bottom" (fun vs H Q _ => ∃ (a : Addr) (q : Rat), vs = [.ref a] ∧ RatAt K H a q ∧ Q (.int (q.den : Int)) H)
theorem ok_is {f : Addr} {fd : FuncData} (F : Fun K "_law_is" "_law_is" sIs f fd) (Z : IsF P w K mg base) : FnG P w K mg base CX0 3 f fd ["_law_made", "_law_part"] (spIs K) := by
  obtain ⟨p1, g1, fd1, P1, G1, b1⟩ := Z.top
  obtain ⟨p2, g2, fd2, P2, G2, b2⟩ := Z.bottom
  have T := Z.L.C.J.I.R.G.T
  have M := Z.D.F
  refine Fun.okG F scIs (fun vs H Q E h => ?_) (fun cdv A outer s H vs Q E gd hr h => ?_)
  · obtain ⟨a, t, q, rfl, _⟩ := h
    rfl
  · obtain ⟨a, t, q, rfl, ha, ht, sq, k⟩ := h
    have hu := hr.units
    refine ⟨_, pss_one (ps_ret (pe_and (pe_callB call_isi (by rfl) T.isi (by decide +kernel) (pa_cons (pv 0) (pa_cons (pe_glob (v := .ref (aR K)) rfl T.gR rfl) pa_nil)))
      (pe_one (pe_cmpR op_eq (pe_callB (call_reprD Z.S gd hu) (by rfl) M.repr (by decide +kernel) (pa_cons (pe_lst (pa_cons (pe_prop (pv 0) T.cl P1 G1 hr b1 .nil pass0 rfl) (pa_cons (pe_prop (pv 0) T.cl P2 G2 hr b2 .nil pass0 rfl) pa_nil))) pa_nil))
        (pe_callB (call_reprD Z.S gd hu) (by rfl) M.repr (by decide +kernel) (pa_cons (pe_lst (pa_cons (pe_ix ix_tup (pv 1) pe_int (fun _ _ => rfl)) (pa_cons (pe_ix ix_tup (pv 1) pe_int (fun _ _ => rfl)) pa_nil))) pa_nil)) (nomark _))))), ?_⟩
    have l1 : q.num.natAbs.log2 < 1920 := Nat.lt_trans (log2_lt sq.1 (by decide)) (by decide)
    have l2 : (q.den : Int).natAbs.log2 < 1920 := Nat.lt_trans (log2_lt sq.den (by decide)) (by decide)
    obtain ⟨s1, s2, s3⟩ := shown_two l1 l2
    obtain ⟨d, e⟩ := id ha
    refine ⟨_, rfl, .ref a, .ref (aR K), .ref (aR K), _, true, rfl, .own _, ha.ty T, isi_self, true, rfl, iteT ?_⟩
    refine ⟨_, rfl, a, d, _, rfl, e, a, q, rfl, ⟨d, e⟩, _, rfl, a, d, _, rfl, e, a, q, rfl, ⟨d, e⟩, (by show 2 ≤ sizeLine; decide), fun l nl => ?_⟩
    have u1 := same_new (o := .lst [V.int q.num, .int (q.den : Int)]) nl
    refine ⟨l, _, rfl, .lst (SqL.of upd_same) (.cons (.int _) (.cons (.int _) .nil)), s1, s2, s3, ?_⟩
    refine ⟨_, rfl, t, _, _, _, rfl, rfl, SqT.of (u1 _ _ ht), rfl, _, rfl, t, _, _, _, rfl, rfl, SqT.of (u1 _ _ ht), rfl, (by show 2 ≤ sizeLine; decide), fun l2 nl2 => ?_⟩
    have u2 := same_new (o := .lst [V.int q.num, .int (q.den : Int)]) nl2
    refine ⟨l2, _, rfl, .lst (SqL.of upd_same) (.cons (.int _) (.cons (.int _) .nil)), s1, s2, s3, rfl, ?_⟩
    rw [decide_eq_true rfl]
    exact k _ (u1.trans u2)
/-! ### a move of the program's -/
end
end K18
set_option maxHeartbeats 4000000
namespace K18
open PySem PySem.Spec PyProof.Rows L2 GL
/-! ### forms -/
/-- two forms are equal -/
def dP (q : Rat) : PyData := .tuple [.int q.num, .int (q.den : Int)]
theorem dP_eqv (q r : Rat) : PyData.eqv (dP q) (dP r) = decide (q = r) := by
  unfold dP
  simp only [PyData.eqv, PyData.eqvAll, Bool.and_true]
  by_cases c : q = r
  · subst c
    simp
  · rw [decide_eq_false c]
    rw [Bool.and_eq_false_iff]
    by_cases a : q.num = r.num
    · refine .inr (beq_eq_false_iff_ne.mpr fun z => c (Rat.ext a ?_))
      omega
    · exact .inl (beq_eq_false_iff_ne.mpr a)
theorem dP_shaped (q : Rat) : SeqAt.shaped (dP q) = true := rfl
theorem PartAt.dp {K : PySem.W.Frag} {H : Hp} {a : Addr} {q : Rat} (h : PartAt H a q) : Dp K H (.ref a) (dP q) := .tup (SqT.of h) (.cons (.int _) (.cons (.int _) .nil))
/-! ### moves whose forms over a range are equal are alike in it -/
end K18
set_option maxHeartbeats 4000000
namespace K18
open PySem PySem.Spec PyProof.Rows L2 GL
abbrev sAheadL : Stmt := tp 37
abbrev sAboveL : Stmt := tp 38
abbrev sHanded : Stmt := tp 39
abbrev sIsCutL : Stmt := tp 40
/-- a cut of the law's own: a fraction, and whether it is just above -/
def MarkAt (H : Hp) (t : Addr) (q : Rat) (b : Bool) : Prop := ∃ a, H t = some (.tup [.ref a, .bl b]) ∧ PartAt H a q
theorem MarkAt.same {H H' : Hp} {t : Addr} {q : Rat} {b : Bool} (h : MarkAt H t q b) (k : Same H H') : MarkAt H' t q b := by
  obtain ⟨a, e, ha⟩ := h
  exact ⟨a, k _ _ e, ha.same k⟩
theorem MarkAt.offR {H : Hp} {p t : Addr} {q : Rat} {b : Bool} (h : MarkAt H t q b) (R : Rng H p) : MarkAt (GL.off H p) t q b := by
  obtain ⟨a, e, ha⟩ := h
  exact ⟨a, R.at_off e (fun _ z => by cases z), ha.offR R⟩
theorem CutR.offR {K : PySem.W.Frag} {H : Hp} {p c : Addr} {q : Rat} {b : Bool} (h : CutR K H c q b) (R : Rng H p) : CutR K (GL.off H p) c q b := by
  obtain ⟨a, e, ha⟩ := h
  exact ⟨a, R.at_off e (fun _ z => by cases z), ha.offR R⟩
theorem CutAt.offR {K : PySem.W.Frag} {H : Hp} {p : Addr} {x : V} {q : Rat} {b : Bool} (h : CutAt K H x q b) (R : Rng H p) : CutAt K (GL.off H p) x q b := by
  obtain ⟨c, v, rfl, e, hv⟩ := h
  exact ⟨c, v, rfl, R.at_off e (fun _ z => by cases z), hv.offR R⟩
theorem cAhead_self {q r : Rat} {b c : Bool} (e : q = r) : cAhead q b r c = (c && !b) := by
  subst e
  unfold cAhead
  have z : rBelow q q = false := rBelow_not.mpr Rat.le_refl
  rw [z]
  cases c <;> cases b <;> rfl
theorem cAhead_ne {q r : Rat} {b c : Bool} (e : ¬ q = r) : cAhead q b r c = rBelow q r := by
  unfold cAhead
  split
  · rw [Bool.eq_iff_iff, Bool.not_eq_true', rBelow_not, rBelow_iff]
    grind
  · rfl
theorem cAbove_or {x q : Rat} {b : Bool} : cAbove x q b = (rBelow q x || (decide (x = q) && !b)) := by
  unfold cAbove
  rw [Bool.eq_iff_iff]
  cases b <;> simp [rBelow_iff, rBelow_not]
  grind
section
variable {P : Program} {w : World} {K : PySem.W.Frag} {mg : Str → Option Value} {base : Heap}
/-! ### one cut ahead of another, by the law -/
def spAheadL (K : PySem.W.Frag) : Sp := fun vs H Q _ => ∃ (s t : Addr) (q r : Rat) (b c : Bool), vs = [.ref s, .ref t] ∧ MarkAt H s q b ∧ MarkAt H t r c ∧ Sz 1000 q ∧ Sz 1000 r ∧ Q (.bl (cAhead q b r c)) H
theorem scAheadL : FnScope ["_law_near", "_law_far"] ["_law_near", "_law_far"] (defScope sAheadL) := ⟨rfl, rfl, rfl, by decide +kernel, rfl, by decide +kernel, by decide +kernel⟩
theorem ok_aheadL {f : Addr} {fd : FuncData} (F : Fun K "_law_ahead" "_law_ahead" sAheadL f fd) (ls : DefF P w K mg base "_law_less" 1 ["_law_near", "_law_far"] (spLess K)) : FnOk P w K mg base CX0 2 f fd ["_law_near", "_law_far"] (spAheadL K) := by
  obtain ⟨fL, fdL, GL, gL, bL, kL⟩ := ls
  refine F.ok scAheadL (fun vs H Q E h => ?_) (fun cdv A outer s H vs Q E hr h => ?_)
  · obtain ⟨s, t, q, r, b, c, rfl, _⟩ := h
    rfl
  · obtain ⟨s, t, q, r, b, c, rfl, ⟨a1, e1, h1⟩, ⟨a2, e2, h2⟩, sq, sr, k⟩ := h
    have hu := hr.units
    refine ⟨_, pss_cons (ps_if (pt_cmpR (op_eqD hu) (pe_ix ix_tup (pv 0) pe_int (fun _ _ => rfl)) (pe_ix ix_tup (pv 1) pe_int (fun _ _ => rfl)) (nomark _))
        (pss_one (ps_ret (pe_and (pe_ix ix_tup (pv 1) pe_int (fun _ _ => rfl)) (pe_one (pe_not (pe_ix ix_tup (pv 0) pe_int (fun _ _ => rfl))))))) pss_nil)
      (pss_one (ps_ret (pe_call GL hr rfl gL kL bL .nil pass0 (pa_cons (pe_ix ix_tup (pv 0) pe_int (fun _ _ => rfl)) (pa_cons (pe_ix ix_tup (pv 1) pe_int (fun _ _ => rfl)) pa_nil))))), ?_⟩
    refine ⟨_, rfl, s, _, _, _, rfl, rfl, SqT.of e1, rfl, _, rfl, t, _, _, _, rfl, rfl, SqT.of e2, rfl, dP q, dP r, h1.dp, h2.dp, rfl, rfl, _, rfl, ?_⟩
    rw [dP_eqv]
    refine ite2 (fun z => ?_) (fun z => ?_)
    · rw [cAhead_self (of_decide_eq_true z)] at k
      refine ⟨_, rfl, t, _, _, _, rfl, rfl, SqT.of e2, rfl, c, rfl, ?_⟩
      cases c with
      | false => exact iteF k
      | true => exact iteT ⟨_, rfl, s, _, _, _, rfl, rfl, SqT.of e1, rfl, b, rfl, k⟩
    · rw [cAhead_ne (of_decide_eq_false (by simpa using z))] at k
      exact ⟨_, rfl, s, _, _, _, rfl, rfl, SqT.of e1, rfl, _, rfl, t, _, _, _, rfl, rfl, SqT.of e2, rfl, a1, a2, q, r, rfl, h1, h2, sq, sr, k⟩
/-! ### a number above a cut, by the law -/
def spAboveL (K : PySem.W.Frag) : Sp := fun vs H Q _ => ∃ (s t : Addr) (x q : Rat) (b : Bool), vs = [.ref s, .ref t] ∧ PartAt H s x ∧ MarkAt H t q b ∧ Sz 1000 q ∧ Sz 1000 x ∧ Q (.bl (cAbove x q b)) H
theorem scAboveL : FnScope ["_law_part", "_law_mark_here"] ["_law_part", "_law_mark_here"] (defScope sAboveL) := ⟨rfl, rfl, rfl, by decide +kernel, rfl, by decide +kernel, by decide +kernel⟩
theorem ok_aboveL {f : Addr} {fd : FuncData} (F : Fun K "_law_above" "_law_above" sAboveL f fd) (ls : DefF P w K mg base "_law_less" 1 ["_law_near", "_law_far"] (spLess K)) : FnOk P w K mg base CX0 2 f fd ["_law_part", "_law_mark_here"] (spAboveL K) := by
  obtain ⟨fL, fdL, GL, gL, bL, kL⟩ := ls
  refine F.ok scAboveL (fun vs H Q E h => ?_) (fun cdv A outer s H vs Q E hr h => ?_)
  · obtain ⟨s, t, x, q, b, rfl, _⟩ := h
    rfl
  · obtain ⟨s, t, x, q, b, rfl, h1, ⟨a2, e2, h2⟩, sq, sx, k⟩ := h
    have hu := hr.units
    refine ⟨_, pss_one (ps_ret (pe_or (pe_call GL hr rfl gL kL bL .nil pass0 (pa_cons (pe_ix ix_tup (pv 1) pe_int (fun _ _ => rfl)) (pa_cons (pv 0) pa_nil)))
      (pe_one (pe_and (pe_cmpR (op_eqD hu) (pv 0) (pe_ix ix_tup (pv 1) pe_int (fun _ _ => rfl)) (nomark _)) (pe_one (pe_not (pe_ix ix_tup (pv 1) pe_int (fun _ _ => rfl)))))))), ?_⟩
    rw [cAbove_or] at k
    refine ⟨_, rfl, t, _, _, _, rfl, rfl, SqT.of e2, rfl, _, rfl, a2, s, q, x, rfl, h2, h1, sq, sx, _, rfl, ?_⟩
    cases hA : rBelow q x with
    | true =>
      rw [hA] at k
      exact iteT k
    | false =>
      rw [hA] at k
      refine iteF ⟨_, rfl, _, rfl, t, _, _, _, rfl, rfl, SqT.of e2, rfl, dP x, dP q, h1.dp, h2.dp, rfl, rfl, _, rfl, ?_⟩
      rw [dP_eqv]
      refine ite2 (fun z => ?_) (fun z => ?_)
      · rw [z] at k
        exact ⟨_, rfl, t, _, _, _, rfl, rfl, SqT.of e2, rfl, b, rfl, k⟩
      · rw [Bool.not_eq_true] at z
        rw [z] at k
        exact k
/-! ### a cut as the program takes it -/
def spHanded (K : PySem.W.Frag) : Sp := fun vs H Q _ => ∃ (p t : Addr) (q : Rat) (b : Bool), vs = [.ref p, .ref t] ∧ Rng H p ∧ MarkAt H t q b ∧ Sz 1000 q ∧ ∀ c H', Same (off H p) H' → Rng H' p → CutAt K H' (.ref c) q b → Q (.ref c) H'
theorem scHanded : FnScope ["_law_rng_here", "_law_mark_here"] ["_law_rng_here", "_law_mark_here"] (defScope sHanded) := ⟨rfl, rfl, rfl, by decide +kernel, rfl, by decide +kernel, by decide +kernel⟩
theorem ok_handed {f : Addr} {fd : FuncData} (F : Fun K "_law_handed" "_law_handed" sHanded f fd) (rl : DefF P w K mg base "_law_real" 4 ["_law_rng_here", "_law_part"] (spReal K)) : FnOk P w K mg base CX0 5 f fd ["_law_rng_here", "_law_mark_here"] (spHanded K) := by
  obtain ⟨fR, fdR, GR, gR, bR, kR⟩ := rl
  refine F.ok scHanded (fun vs H Q E h => ?_) (fun cdv A outer s H vs Q E hr h => ?_)
  · obtain ⟨p, t, q, b, rfl, _⟩ := h
    rfl
  · obtain ⟨p, t, q, b, rfl, R, ⟨a, e, ha⟩, sq, k⟩ := h
    refine ⟨_, pss_one (ps_ret (pe_tup (pa_cons (pe_call GR hr rfl gR kR bR .nil pass0 (pa_cons (pv 0) (pa_cons (pe_ix ix_tup (pv 1) pe_int (fun _ _ => rfl)) pa_nil))) (pa_cons (pe_ix ix_tup (pv 1) pe_int (fun _ _ => rfl)) pa_nil)))), ?_⟩
    refine ⟨_, rfl, _, rfl, t, _, _, _, rfl, rfl, SqT.of e, rfl, p, a, q, rfl, R, ha, sq, fun x H1 k1 R1 hx => ?_⟩
    have e1 := k1 _ _ (R.at_off e (fun _ z => by cases z))
    refine ⟨_, rfl, t, _, _, _, rfl, rfl, SqT.of e1, rfl, (by show 2 ≤ sizeLine; decide), fun c nc => ?_⟩
    have u1 := same_new (o := .tup [x, .bl b]) nc
    exact k c _ (fun y o z => u1 y o (k1 y o z)) (R1.same u1) ⟨c, x, rfl, upd_same, hx.same u1⟩
/-! ### a cut of the program's shows a cut -/
def spIsCutL (K : PySem.W.Frag) : Sp := fun vs H Q _ => ∃ (c t : Addr) (q : Rat) (b : Bool), vs = [.ref c, .ref t] ∧ CutR K H c q b ∧ MarkAt H t q b ∧ Sz 1900 q ∧ ∀ H', Same H H' → Q (.bl true) H'
theorem scIsCutL : FnScope ["_law_made", "_law_mark_here"] ["_law_made", "_law_mark_here"] (defScope sIsCutL) := ⟨rfl, rfl, rfl, by decide +kernel, rfl, by decide +kernel, by decide +kernel⟩
theorem ok_isCutL {f : Addr} {fd : FuncData} (F : Fun K "_law_is_cut" "_law_is_cut" sIsCutL f fd) (Z : IsF P w K mg base) (is : DefG P w K mg base "_law_is" 3 ["_law_made", "_law_part"] (spIs K)) : FnG P w K mg base CX0 4 f fd ["_law_made", "_law_mark_here"] (spIsCutL K) := by
  obtain ⟨fI, fdI, GI, gI, bI, kI⟩ := is
  have T := Z.L.C.J.I.R.G.T
  have I := Z.L.C.J.I
  refine Fun.okG F scIsCutL (fun vs H Q E h => ?_) (fun cdv A outer s H vs Q E gd hr h => ?_)
  · obtain ⟨c, t, q, b, rfl, _⟩ := h
    rfl
  · obtain ⟨c, t, q, b, rfl, ⟨a, ec, ha⟩, ⟨g, et, hg⟩, sq, k⟩ := h
    refine ⟨_, pss_one (ps_ret (pe_and (pe_callB call_isi (by rfl) T.isi (by decide +kernel) (pa_cons (pv 0) (pa_cons (pe_bltn (v := .ty "tuple") (by rfl) I.tuple (by decide +kernel) rfl) pa_nil)))
      (pe_and (pe_cmpR op_eq (pe_callB call_len_seq (by rfl) I.len PySem.boot_len (pa_cons (pv 0) pa_nil)) pe_int (nomark _))
      (pe_and (pe_callG GI gd hr rfl gI kI bI .nil pass0 (pa_cons (pe_ix ix_tup (pv 0) pe_int (fun _ _ => rfl)) (pa_cons (pe_ix ix_tup (pv 1) pe_int (fun _ _ => rfl)) pa_nil)))
      (pe_one (pe_cmpR op_eq (pe_ix ix_tup (pv 0) pe_int (fun _ _ => rfl)) (pe_ix ix_tup (pv 1) pe_int (fun _ _ => rfl)) (nomark _))))))), ?_⟩
    refine ⟨_, rfl, .ref c, .ty "tuple", .type "tuple", _, true, rfl, .ty _, .base (.tup ec), kit_ty (by decide +kernel), true, rfl, iteT ?_⟩
    refine ⟨_, rfl, c, _, rfl, .inr (SqT.of ec), rfl, _, rfl, iteT ?_⟩
    refine ⟨_, rfl, c, _, _, _, rfl, rfl, SqT.of ec, rfl, _, rfl, t, _, _, _, rfl, rfl, SqT.of et, rfl, a, g, q, rfl, ha, hg, sq, fun H1 k1 => ⟨true, rfl, iteT ?_⟩⟩
    refine ⟨_, rfl, c, _, _, _, rfl, rfl, SqT.of (k1 _ _ ec), rfl, _, rfl, t, _, _, _, rfl, rfl, SqT.of (k1 _ _ et), rfl, rfl, ?_⟩
    rw [decide_eq_true rfl]
    exact k H1 k1
end
end K18
set_option maxHeartbeats 1000000
/-! repr(a), a an own instance. -/
namespace GL
open PySem PySem.Spec PyProof.Rows L2
theorem krp_call {prog : Program} {w : World} {A : Around} {E : Value → Shared → Prop} {s : Shared} {K : PySem.W.Frag} {x C f : Addr} {ox : Obj} {od : Option Obj} {Q : Value → Shared → Prop} (hu : A.in1.units < cLine) (X : K.In s.heap) (I : PySem.W.InstAt s.heap x ox C od) (hr : PySem.W.findIn K (.ref C) "__repr__" = some (some (.ref f))) (hf : PySem.W.isFn K (.ref f) = true)
    (h : wpAny (model prog w) A.in1 (call (.ref f) [.ref x]) (PySem.W.KfoBack Q) E s) : wpAny (model prog w) A (call (.builtin "repr") [.ref x]) Q E s := by
  refine Calls.call_function_entry PySem.F.kind_repr PySem.F.plain_repr PySem.F.entry_repr (PySem.F.args_repr1 _) ?_
  unfold Builtin.«repr»
  refine wpAny_bind (m := PySem.oneArg "repr" _) (wpAny_pure ?_)
  refine wpAny_bind (wpAny_cRoomFor hu ?_)
  refine wpAny_bind (m := specialOf (.ref x) _) (wpAny_bind (I.type.here ((PySem.W.looks_findIn X hr).here ?_)))
  show wpAny _ _ (if (some (Value.ref f)).isNone = true then _ else _) _ _ _
  rw [if_neg (by simp)]
  refine wpAny_bind (m := callSpecialIfBound? (.ref x) (Str.ofString "__repr__") _) (PySem.W.ifBound_K X I hr hf (wpAny_mono h (fun r s' hq => ?_) fun _ _ y => y))
  obtain ⟨m, tk, rfl, hq⟩ := hq
  refine wpAny_bind (wpAny_isInstance (typeIs_str _ _ _) isSubtype_str_str ?_)
  first
    | exact wpAny_pure ⟨_, rfl, hq⟩
    | (rw [if_pos rfl]; exact wpAny_pure ⟨_, rfl, hq⟩)
    | (simp only [if_true]; exact wpAny_pure ⟨_, rfl, hq⟩)
theorem call_reprO {X : Cx} {CX : CXT} {E : XK} {k : Nat} {sp : Sp} {C f : Addr} (B : Meth X.K C "__repr__" f) (F : FnR X.prog X.w X.K X.mg X.base CX k f sp) (hr : Room (k + 1) X.A) (hx : Passes CX X E) :
    CallR X (.builtin "repr") (fun xs H Q => ∃ a dx fs, xs = [.ref a] ∧ H a = some (.ins C dx fs) ∧ sp [.ref a] H (fun v H' => ∃ z, v = .str z ∧ Q v H') E) := by
  intro pins s σ H xs us Q I r h
  obtain ⟨a, dx, fs, rfl, ea, q⟩ := h
  cases r with
  | cons r1 r2 =>
    cases r2
    rename_i u
    cases (show u = Value.ref a from r1)
    obtain ⟨ox, od, J⟩ := inst_of I ea
    have e0 : Env0 X.prog X.w X.K X.mg X.base X.A.in1 X.stack s H := { I.env0 with frames := I.env0.frames }
    have run := F X.A.in1 X.stack s H [.ref a] [.ref a] _ E (Room.in1 hr) e0 (Paired.cons (a := V.ref a) (b := Value.ref a) rfl .nil) q
    have hu : X.A.in1.units < cLine := by
      have := (Room.in1 hr).un
      omega
    refine krp_call hu I.kIn J B.at_ B.fn (wpAny_call (codeAny_mono run fun r' s' z => ?_))
    match r', z with
    | .error er, z => exact hx pins σ H s er s' I z
    | .ok .next, z => exact False.elim z
    | .ok .brk, z => exact False.elim z
    | .ok .cont, z => exact False.elim z
    | .ok (.ret w), z =>
      obtain ⟨v, H', I', rv, y, rfl, q'⟩ := I.after z
      obtain ⟨t, rfl⟩ := (show ∃ t, w = Value.str y t from rv)
      exact ⟨y, t, rfl, V.str y, H', I', rv, q'⟩
end GL
set_option maxHeartbeats 1000000
/-! defs that neither loop nor raise: called whatever is handled. -/
namespace GL
open PySem PySem.Spec PyProof.Rows L2 L2H
structure FnC (P : Program) (w : World) (K : PySem.W.Frag) (mg : Str → Option Value) (base : Heap) (k : Nat) (f : Addr) (fd : FuncData) (ps : List Str) (sp : Sp) : Prop where
  len : ∀ vs H Q E, sp vs H Q E → vs.length = ps.length
  run : ∀ (A : Around) (outer : List Env) (s : Shared) (H : Hp) (args : Args) (us : List Value) (vs : List V) (Q : VK), RoomH k A → Env0 P w K mg base A outer s H → BindsTo s fd args (ps.zip us) → Vals vs us → sp vs H Q E0 →
    codeAny (model P w) A (.call (.ref f) args) (CR CX0 outer P w H s Q E0) s
def cxQ (P : Program) (w : World) (K : PySem.W.Frag) (mg : Str → Option Value) (base : Heap) (N : List Str) (qual : Str) (scope : Scope) (f : Addr) (cd : Value) (A : Around) (outer : List Env) (s : Shared) (H : Hp) : Cx :=
  { cxOf CX0 P w K mg base N qual scope f cd A outer s H E0 with calm := false }
/-- nothing is handled -/
def quiet (A : Around) : Around := { A with handled := none }
section
variable {P : Program} {w : World} {K : PySem.W.Frag} {mg : Str → Option Value} {base : Heap} {N ps : List Str} {q : Str} {sc : Scope} {f : Addr} {cd : Value} {A : Around} {out : List Env} {s s1 : Shared} {H : Hp}
theorem Env0.quiet (e : Env0 P w K mg base A out s H) : Env0 P w K mg base (quiet A) out s H := { e with frames := e.frames }
theorem inv_quiet {z : L2.St} {G : Hp} {pins : List (Addr × Obj)} (I : Inv (cxOf CX0 P w K mg base N q sc f cd (GL.quiet A) out s H E0) pins z G s1) : Inv (cxQ P w K mg base N q sc f cd A out s H) pins z G s1 :=
  { I with ok := { I.ok with hd := fun v => by cases v } }
theorem fnC_of {k : Nat} {nm : Str} {pa : Arguments} {bd : List Stmt} {dV kV dc pm oc ct : Value} {an od : Option Addr} {osl : Array (Option Value)} {sp : Sp} (at_ : K.lookup f = some ⟨oc, od, .func (PySem.W.fnOf nm q pa bd sc dV kV dc pm an cd ct), osl⟩) (code : PySem.W.codeIn K cd q = true) (S : FnScope N ps sc)
    (long : ∀ vs H Q E, sp vs H Q E → vs.length = ps.length)
    (inner : ∀ (A : Around) (out : List Env) (s : Shared) (H : Hp) (vs : List V) (Q : VK), RoomH k (A.deeper (envOfC q sc s.heap.objs.size f cd)) → sp vs H Q E0 → ∃ t, PSs (cxQ P w K mg base N q sc f cd A out s H) bd t ∧ t { nx := fun _ G => Q .non G, rt := Q } (L2.start N vs) H) :
    FnC P w K mg base (k + 1) f (PySem.W.fnOf nm q pa bd sc dV kV dc pm an cd ct) ps sp := by
  refine ⟨long, ?_⟩
  intro A out s H args us vs Q room e0 bnd vals hsp
  have hin := e0.mod.kin.keeps fun b o z => (e0.bs b o z).1
  refine codeAny_call_function room.depth (hin _ _ at_) rfl S.co S.gen rfl (PySem.W.codeRec_of hin code) (bnd _ _ _ _ ?_)
  refine wpAny_newFunctionEnv_cells S.kind ?_ ?_
  · rintro ⟨n, v⟩ hy
    rcases S.par n (List.of_mem_zip hy).1 with z | z
    · exact .inl z
    · exact .inr ⟨z, PySem.W.cellsFrom_some _ _ _ (.inl z)⟩
  · rintro env rfl s1 x
    refine ⟨(e0.mod.nolimit.keeps fun b o z => (e0.bs b o z).1).keeps x.toInCall.keep, codeAny_func ?_⟩
    obtain ⟨t, ok, go⟩ := inner A out s H vs Q (room.deeper _) hsp
    have J := inv_quiet (inv_start (CX := CX0) (E := E0) S (A := GL.quiet A) rfl (GL.Env0.quiet e0) (long _ _ _ _ hsp) vals x)
    refine wpAny_mono (ok.run [] s1 (L2.start N vs) H _ J go) ?_ fun _ _ z => z
    intro fl s2 z
    match fl, z with
    | .ret u, ⟨v, _, G, L, rv, z⟩ => exact ⟨v, G, L.os, L.bare, L.base, L.hok, rv, z⟩
    | .next, ⟨_, G, L, z⟩ => exact ⟨.non, G, L.os, L.bare, L.base, L.hok, rfl, z⟩
    | .brk, ⟨_, _, _, z⟩ => exact z.elim
    | .cont, ⟨_, _, _, z⟩ => exact z.elim
end
theorem call_reprQ {X : Cx} {k : Nat} {fd : FuncData} {sp : Sp} {C f : Addr} (B : Meth X.K C "__repr__" f) (F : FnC X.prog X.w X.K X.mg X.base k f fd ["self"] sp) (hb : Binds X.K fd ["self"] []) (hr : RoomH (k + 1) X.A) :
    CallR X (.builtin "repr") (fun xs H Q => ∃ a dx fs, xs = [.ref a] ∧ H a = some (.ins C dx fs) ∧ sp [.ref a] H (fun v H' => ∃ z, v = .str z ∧ Q v H') E0) := by
  intro pins s σ H xs us Q I r h
  obtain ⟨a, dx, fs, rfl, ea, q⟩ := h
  cases r with
  | cons r1 r2 =>
    cases r2
    rename_i u
    cases (show u = Value.ref a from r1)
    obtain ⟨ox, od, J⟩ := inst_of I ea
    have e0 : Env0 X.prog X.w X.K X.mg X.base X.A.in1 X.stack s H := { I.env0 with frames := I.env0.frames }
    have b := hb s [.ref a] I.kIn rfl
    rw [List.append_nil] at b
    have hr1 : RoomH k X.A.in1 := ⟨by have := hr.dp; show X.A.depth + 3 * k + 5 < _; omega, by have := hr.un; show X.A.units + 1 + 16 * k + 200 < _; omega⟩
    have run := F.run X.A.in1 X.stack s H ⟨[.ref a], []⟩ [.ref a] [.ref a] _ hr1 e0 b (Paired.cons (a := V.ref a) (b := Value.ref a) rfl .nil) q
    have hu : X.A.in1.units < cLine := by
      have := hr1.un
      omega
    refine krp_call hu I.kIn J B.at_ B.fn (wpAny_call (codeAny_mono run fun r' s' z => ?_))
    match r', z with
    | .error er, z => exact False.elim z
    | .ok .next, z => exact False.elim z
    | .ok .brk, z => exact False.elim z
    | .ok .cont, z => exact False.elim z
    | .ok (.ret w), z =>
      obtain ⟨v, H', I', rv, y, rfl, q'⟩ := I.after z
      obtain ⟨t, rfl⟩ := (show ∃ t, w = Value.str y t from rv)
      exact ⟨y, t, rfl, V.str y, H', I', rv, q'⟩
end GL
set_option maxHeartbeats 1000000
/-! repr of tuples that hold own instances. -/
namespace GL
open PySem PySem.Spec PyProof.Rows L2 L2H PySem.Builtin.Tuple
theorem ifBoundBy_K {M : Model} {A : Around} {E : Value → Shared → Prop} {s : Shared} {K : PySem.W.Frag} {x C f : Addr} {ox : Obj} {od : Option Obj} {name : Str} {last : Value → List Value → Sem Value} {Q : Option Value → Shared → Prop} (X : K.In s.heap) (I : PySem.W.InstAt s.heap x ox C od) (hs : PySem.W.findIn K (.ref C) name = some (some (.ref f))) (hf : PySem.W.isFn K (.ref f) = true)
    (h : wpAny M A (last (.ref f) [.ref x]) (fun v => Q (some v)) E s) : wpAny M A (callSpecialIfBoundBy? last (.ref x) name) Q E s := by
  simp only [callSpecialIfBoundBy?, bindSpecialIfBound?]
  refine wpAny_holding (wpAny_bind (wpAny_bind (wpAny_bind (I.type.here ((PySem.W.looks_findIn X hs).here ?_)))))
  refine wpAny_bind (wpAny_askSetting (wpAny_ite ?_))
  have fin : wpAny M A (last (.ref f) [.ref x] >>= fun v => pure (some v)) Q E s := wpAny_bind (wpAny_mono h (fun v s' h' => wpAny_pure h') fun _ _ h' => h')
  split
  · exact wpAny_bind ((PySem.W.bind_fn X _ (beq_iff_eq.mp hf)).here (wpAny_pure (by exact fin)))
  · exact wpAny_tryCatch (wpAny_bind ((PySem.W.bind_fn X _ (beq_iff_eq.mp hf)).here (wpAny_pure (by exact fin))))
theorem krp_under {prog : Program} {w : World} {A : Around} {E : Value → Shared → Prop} {s : Shared} {K : PySem.W.Frag} {x C f : Addr} {ox : Obj} {od : Option Obj} {Q : Str → Shared → Prop} {b : Nat} (hb : b ≤ sizeLine) (hu : A.units < cLine) (X : K.In s.heap) (I : PySem.W.InstAt s.heap x ox C od) (hr : PySem.W.findIn K (.ref C) "__repr__" = some (some (.ref f))) (hf : PySem.W.isFn K (.ref f) = true)
    (h : wpAny (model prog w) A (call (.ref f) [.ref x]) (fun v s' => ∃ m tk, v = .str m tk ∧ Q m s') E s) : wpAny (model prog w) A (pyReprUnder b (.ref x)) Q E s := by
  refine wpAny_pyReprUnder_ref hb ?_
  unfold pyReprObjUnder pyReprObjBy
  refine wpAny_bind (wpAny_cRoomFor hu ?_)
  refine wpAny_bind (m := specialOf (.ref x) _) (wpAny_bind (I.type.here ((PySem.W.looks_findIn X hr).here ?_)))
  show wpAny _ _ (if (some (Value.ref f)).isNone = true then _ else _) _ _ _
  rw [if_neg (by simp)]
  refine wpAny_bind (ifBoundBy_K X I hr hf ?_)
  show wpAny _ _ (call (.ref f) ([.ref x] ++ [])) _ _ _
  refine wpAny_mono h (fun r s' hq => ?_) fun _ _ y => y
  obtain ⟨m, tk, rfl, hq⟩ := hq
  refine wpAny_bind (wpAny_isInstance (typeIs_str _ _ _) isSubtype_str_str ?_)
  first
    | exact wpAny_pure ⟨_, _, rfl, hq⟩
    | (rw [if_pos rfl]; exact wpAny_pure ⟨_, _, rfl, hq⟩)
    | (simp only [if_true]; exact wpAny_pure ⟨_, _, rfl, hq⟩)
structure SubH (X : Cx) (n : Nat) (A : Around) : Prop where
  room : RoomH n A
  fr : A.frames = X.A.frames
theorem SubH.units0 {X : Cx} {n : Nat} {A : Around} (h : SubH X n A) : A.units < cLine := by
  have := h.room.un
  omega
/-- repr inside a tuple gives t -/
def ReprG (X : Cx) (n : Nat) (as : List Addr) (x : V) (t : Str) (H : Hp) : Prop :=
  ∀ (A : Around) (g : List Code) (pins : List (Addr × Obj)) (s : Shared) (σ : L2.St) (H1 : Hp) (u : Value) (b : Nat) (E : Value → Shared → Prop) (Q : Str → Shared → Prop), SubH X n A → A.guards = some g → (∀ c ∈ as, Clear g c) → Same H H1 → Inv X pins σ H1 s → L2.RelV x u → b + t.length ≤ sizeLine →
    (∀ s' H', Inv X pins σ H' s' → Same H1 H' → Q t s') → wpAny (model X.prog X.w) A (pyReprUnder b u) Q E s
inductive ReprsG (X : Cx) (n : Nat) (as : List Addr) (H : Hp) : List V → List Str → Prop
  | nil : ReprsG X n as H [] []
  | cons {x : V} {t : Str} {l : List V} {ts : List Str} : ReprG X n as x t H → ReprsG X n as H l ts → ReprsG X n as H (x :: l) (t :: ts)
section
variable {X : Cx} {n : Nat} {as : List Addr} {H : Hp}
theorem ReprsG.length_eq : ∀ {l : List V} {ts : List Str}, ReprsG X n as H l ts → ts.length = l.length
  | _, _, .nil => rfl
  | _, _, .cons _ h => by simp [h.length_eq]
theorem ReprG.more {x : V} {t : Str} {bs : List Addr} (h : ReprG X n as x t H) (sub : ∀ c ∈ as, c ∈ bs) : ReprG X n bs x t H := fun A g pins s σ H1 u b E Q sb hg hcl k I r hb q => h A g pins s σ H1 u b E Q sb hg (fun c hc => hcl c (sub c hc)) k I r hb q
theorem ReprG.int {i : Int} (hi : i.natAbs.log2 < 1920) : ReprG X n as (.int i) (toString i) H := by
  intro A g pins s σ H1 u b E Q sb hg hcl k I r hb q
  obtain ⟨t, rfl⟩ := (show ∃ t, u = Value.int i t from r)
  exact ReprIs.int t hi b hb A E s Q fun tk => q _ H1 (I.tok tk) fun _ _ e => e
theorem ReprG.bl {c : Bool} : ReprG X n as (.bl c) (if c then "True" else "False") H := by
  intro A g pins s σ H1 u b E Q sb hg hcl k I r hb q
  cases (show u = Value.bool c from r)
  exact ReprIs.bool c b hb A E s Q fun tk => q _ H1 (I.tok tk) fun _ _ e => e
/-- an own instance whose __repr__ neither loops nor raises -/
theorem ReprG.own {fd : FuncData} {sp : Sp} {C f a : Addr} {dx : Addr} {fs : List (Str × V)} {t : Str} (B : Meth X.K C "__repr__" f) (F : FnC X.prog X.w X.K X.mg X.base n f fd ["self"] sp) (hb : Binds X.K fd ["self"] [])
    (ha : H a = some (.ins C dx fs)) (hsp : ∀ H1, Same H H1 → sp [.ref a] H1 (fun v H' => v = .str t ∧ Same H1 H') E0) : ReprG X n as (.ref a) t H := by
  intro A g pins s σ H1 u b E Q sb hg hcl k I r hlen q
  cases (show u = Value.ref a from r)
  obtain ⟨ox, od, J⟩ := inst_of I (k _ _ ha)
  have e0 : Env0 X.prog X.w X.K X.mg X.base A X.stack s H1 := by
    have e := I.env0
    exact { e with frames := sb.fr.trans e.frames }
  have b0 := hb s [.ref a] I.kIn rfl
  rw [List.append_nil] at b0
  have run := F.run A X.stack s H1 ⟨[.ref a], []⟩ [.ref a] [.ref a] _ sb.room e0 b0 (Paired.cons (a := V.ref a) (b := Value.ref a) rfl .nil) (hsp H1 k)
  refine krp_under (by omega) sb.units0 I.kIn J B.at_ B.fn (wpAny_call (codeAny_mono run fun r' s' z => ?_))
  match r', z with
  | .error er, z => exact False.elim z
  | .ok .next, z => exact False.elim z
  | .ok .brk, z => exact False.elim z
  | .ok .cont, z => exact False.elim z
  | .ok (.ret w), z =>
    obtain ⟨v, H', I', rv, rfl, k'⟩ := I.after z
    obtain ⟨tk, rfl⟩ := (show ∃ tk, w = Value.str t tk from rv)
    exact ⟨t, tk, rfl, q s' H' I' k'⟩
/-- the items, one after another -/
theorem foldG {A : Around} {g : List Code} {pins : List (Addr × Obj)} {σ : L2.St} {E : Value → Shared → Prop} (sb : SubH X n A) (hg : A.guards = some g) (hcl : ∀ c ∈ as, Clear g c) : ∀ (xs : List V) (us : List Value) (ts : List Str) (acc : Array Str) (k : Nat) (s : Shared) (H1 : Hp) (Q : (Array Str × Nat) → Shared → Prop), ReprsG X n as H xs ts → Vals xs us → k + piled ts ≤ sizeLine → Same H H1 → Inv X pins σ H1 s →
    (∀ s' H', Inv X pins σ H' s' → Same H1 H' → Q ⟨acc ++ ts.toArray, k + piled ts⟩ s') → wpAny (model X.prog X.w) A (forIn us (⟨acc, k⟩ : (Array Str × Nat)) tupBody) Q E s := by
  intro xs
  induction xs with
  | nil =>
    intro us ts acc k s H1 Q hT r hk kH I q
    cases hT
    cases r
    have h0 := q s H1 I fun _ _ e => e
    simp only [List.forIn_nil]
    exact wpAny_pure (by simpa [piled] using h0)
  | cons x xs ih =>
    intro us ts acc k s H1 Q hT r hk kH I q
    cases hT with
    | cons hx hl =>
      rename_i t ts'
      cases r with
      | cons r1 r2 =>
        rename_i u us'
        rw [piled_cons] at hk
        rw [List.forIn_cons]
        refine wpAny_bind (wpAny_bind (hx A g pins s σ H1 u (k + 1) _ _ sb hg hcl kH I r1 (by omega) fun s' H' I' k' => wpAny_pure ?_))
        refine ih us' ts' (acc.push t) (k + (t.length + 2)) s' H' Q hl r2 (by omega) (kH.trans k') I' fun s2 H2 I2 k2 => ?_
        have h1 := q s2 H2 I2 (k'.trans k2)
        have e : k + piled (t :: ts') = k + (t.length + 2) + piled ts' := by rw [piled_cons]; omega
        rw [e] at h1
        simpa using h1
theorem own_tupG {A : Around} {g : List Code} {pins : List (Addr × Obj)} {σ : L2.St} {s : Shared} {H1 : Hp} {a : Addr} {xs : List V} {ts : List Str} {R : Result → Shared → Prop} {base : Nat} {id : String} {rest : List Value}
    (ha : SqT X.K H1 a xs) (hna : a ∉ as) (hT : ReprsG X n as H xs ts) (kH : Same H H1) (I : Inv X pins σ H1 s)
    (hcg : (Code.builtin id ⟨.ref a :: rest, []⟩).isGuard = true) (sb' : SubH X n (A.under (.builtin id ⟨.ref a :: rest, []⟩)))
    (hg : A.guards = some g) (hcl : ∀ b ∈ a :: as, Clear g b)
    (hR : ∀ s' H' u, Inv X pins σ H' s' → Same H1 H' → R (.ok (.ret (.str (tupleText ts) u))) s') (hsz : base + (tupleText ts).length ≤ sizeLine) :
    wpOwn (model X.prog X.w) A (.builtin id ⟨.ref a :: rest, []⟩) (Builtin.tupleReprAt base ⟨[.ref a], []⟩) (fun fin s' => match fin with | .done f => R (.ok f) s' | .again c' => c'.quiet = true ∧ codeAny (model X.prog X.w) A c' R s') (fun e s' => R (.error e) s') s := by
  have hca : Clear g a := hcl a (.head _)
  obtain ⟨us, r, e, z⟩ := I.tuple ha
  obtain ⟨⟨cls, dd, data, sl⟩, ho, hc1, k1, hd1⟩ := _root_.id e
  dsimp only at hc1 hd1
  have hlen : ts.length = us.toArray.size := by
    rw [List.size_toArray, ← r.length]
    exact hT.length_eq
  have hp := piled_le_tupleText ts
  have hsz0 : (tupleText ts).length ≤ sizeLine := by omega
  rw [tuple_repr_tree, tupleReprUnderWay_eq]
  refine wpOwn_bind (wpOwn_stackTailAny hg (tupGuardF_off _) (tupGuardF_pos _) ?_)
  have hn : (g.any fun c => tupGuardF (.ref a) (c, default)) = false := by
    rw [List.any_eq_false]
    intro c hcm
    rw [tupGuardF_of_clear hca c hcm]
    exact Bool.false_ne_true
  rw [hn]
  refine wpOwn_of_wpAny ?_
  show wpAny _ _ (tupleReprRest base (.ref a)) _ _ s
  unfold tupleReprRest Builtin.Tuple.tupleItemsOf
  refine wpAny_bind (wpAny_bind (wpAny_seqItems ho hd1 (wpAny_pure ?_)))
  rw [← Array.forIn_toList]
  refine wpAny_bind (foldG sb' (guards_under_guard hcg hg) (fun b hb => (hcl b (.tail _ hb)).cons (a := a) fun e => hna (e ▸ hb)) xs us ts _ _ s H1 _ hT r (by omega) kH I fun s' H' I' k' => ?_)
  refine wpAny_bind (wpAny_mkStr (wpAny_pure ?_) (by simpa [tupleText, hlen] using hsz0))
  have h1 := hR _ H' s'.toks (I'.tok (s'.toks + 1)) k'
  simpa [tupleText, hlen] using h1
theorem SubH.under {A : Around} {id : String} {args : Args} (h : SubH X (n + 1) A) (hcu : (A.under (.builtin id args)).units = A.units + 1) (hw : (Code.builtin id args).weight = 1) : SubH X n (A.under (.builtin id args)) := by
  refine ⟨⟨?_, ?_⟩, h.fr⟩
  · have := h.room.dp
    show A.depth + (Code.builtin id args).weight + 3 * n + 5 < _
    omega
  · have := h.room.un
    rw [hcu]
    omega
theorem ReprG.tup {a : Addr} {xs : List V} {ts : List Str} (ha : H a = some (.tup xs)) (hna : a ∉ as) (hT : ReprsG X n as H xs ts) : ReprG X (n + 1) (a :: as) (.ref a) (tupleText ts) H := by
  intro A g pins s σ H1 u b E Q sb hg hcl k I r hb q
  cases (show u = Value.ref a from r)
  have ha1 : SqT X.K H1 a xs := SqT.of (k _ _ ha)
  obtain ⟨us, _, e, _⟩ := I.tuple ha1
  obtain ⟨o, ho, hc, _⟩ := e
  refine wpAny_pyReprUnder_ref (by omega) (wpAny_pyReprObjUnder_twin (twin := "tuple.__repr__.under") ⟨o, ho, hc⟩ F.slot_tuple_repr rfl sb.units0 ?_)
  refine call_twin_own (F.quiet_tuple_repr_under _) F.entry_tuple_repr_under F.check_tuple_repr_under ⟨o, ho, hc⟩ F.slot_tuple_repr (F.args_tuple_repr_1 _) ?_
  exact own_tupG (R := callEnd _ E) ha1 hna hT k I (isGuard_tuple_repr_under _) (sb.under (units_under_tuple_repr_under _ _) (by kernel_rfl)) hg hcl (fun s' H' u I' k' => ⟨⟨_, _, rfl⟩, _, _, rfl, q s' H' I' k'⟩) hb
theorem call_reprG (gd : X.A.guards = some []) (hr : RoomH (n + 2) X.A) :
    CallR X (.builtin "repr") (fun xs H Q => ∃ a l ts as, xs = [.ref a] ∧ SqT X.K H a l ∧ a ∉ as ∧ ReprsG X n as H l ts ∧ (tupleText ts).length ≤ sizeLine ∧ ∀ H', Same H H' → Q (.str (tupleText ts)) H') := by
  intro pins s σ H xs us Q I r h
  obtain ⟨a, l, ts, as, rfl, ha, hna, hT, sz, q⟩ := h
  cases r with
  | cons r1 r2 =>
    cases r2
    rename_i u
    cases (show u = Value.ref a from r1)
    obtain ⟨us, _, e, _⟩ := I.tuple ha
    obtain ⟨o, ho, hc, _⟩ := e
    have un := hr.un
    have dp := hr.dp
    have sb : SubH X (n + 1) X.A.in1 := ⟨⟨by show X.A.depth + 3 * (n + 1) + 5 < _; omega, by show X.A.units + 1 + 16 * (n + 1) + 200 < _; omega⟩, rfl⟩
    refine call_repr_slot (by omega) ⟨o, ho, hc⟩ F.slot_tuple_repr ?_
    refine wpAny_call (codeAny_call_builtin_own (Code.quiet_builtin _ (by decide +kernel)) F.entry_tuple_repr (F.slot_tuple_repr.check _ _ _ _ _ _ _ _ ⟨o, ho, hc⟩ (F.args_tuple_repr_1 _) ?_))
    refine own_tupG (R := callEnd _ X.xe) (base := 0) ha hna hT (fun _ _ z => z) I (isGuard_tuple_repr _) (sb.under (units_under_tuple_repr _ _) (by kernel_rfl)) (g := []) gd (fun b _ => Clear.nil b) (fun s' H' u I' k' => ?_) (by omega)
    exact ⟨_, _, rfl, V.str (tupleText ts), H', I', ⟨_, rfl⟩, q H' k'⟩
end
end GL
set_option maxHeartbeats 4000000
namespace K18
open PySem PySem.Spec PyProof.Rows L2 GL
abbrev sTold : Stmt := tp 36
abbrev aIN (K : PySem.W.Frag) : Addr := He.ga K "InvalidNumber"
abbrev aIC (K : PySem.W.Frag) : Addr := He.ga K "InvalidCut"
abbrev aIS (K : PySem.W.Frag) : Addr := He.ga K "InvalidStretch"
abbrev aIR (K : PySem.W.Frag) : Addr := He.ga K "InvalidRange"
/-! ### repr of a Ratio -/
def reprQ (q : Rat) : Str := ((((Str.empty ++ "Ratio(") ++ toString q.num) ++ ", ") ++ toString (q.den : Int)) ++ ")"
section
variable {P : Program} {w : World} {K : PySem.W.Frag} {mg : Str → Option Value} {base : Heap}
def spRepr (K : PySem.W.Frag) : Sp := fun vs H Q _ => ∃ (a : Addr) (q : Rat), vs = [.ref a] ∧ RatAt K H a q ∧ Sz 900 q ∧ Q (.str (reprQ q)) H
theorem scRepr : FnScope ["self"] ["self"] (defScope (sRatio 15)) := ⟨rfl, rfl, rfl, by decide +kernel, rfl, by decide +kernel, by decide +kernel⟩
theorem ok_repr {f : Addr} {fd : FuncData} (F : FunD K "__repr__" "Ratio.__repr__" (defArgs (sRatio 15)) (defBody (sRatio 15)) (defScope (sRatio 15)) [] [] f fd) (T : RF K mg) : FnC P w K mg base 1 f fd ["self"] (spRepr K) := by
  obtain ⟨oc, od, dV, kV, doc, pm, an, cdv, ct, osl, rfl, lk, hcd, _, _⟩ := F.ex
  refine fnC_of lk hcd scRepr (fun vs H Q E h => ?_) (fun A out s H vs Q hr h => ?_)
  · obtain ⟨a, q, rfl, _⟩ := h
    rfl
  · obtain ⟨a, q, rfl, ⟨d, e⟩, sz, k⟩ := h
    refine ⟨_, pss_one (ps_ret (pe_joined (.cons pe_str (.cons (pe_fmt (pe_fld (pv 0) rfl)) (.cons pe_str (.cons (pe_fmt (pe_fld (pv 0) rfl)) (.cons pe_str .nil))))))), ?_⟩
    have l1 : q.num.natAbs.log2 < 1920 := Nat.lt_trans (log2_lt sz.1 (by decide)) (by decide)
    have l2 : (q.den : Int).natAbs.log2 < 1920 := Nat.lt_trans (log2_lt sz.den (by decide)) (by decide)
    have n1 : (Str.ofString (toString q.num)).length ≤ 1921 := by
      rw [PySem.ofString_length]
      exact int_text_length_le (by decide) l1
    have n2 : (Str.ofString (toString (q.den : Int))).length ≤ 1921 := by
      rw [PySem.ofString_length]
      exact int_text_length_le (by decide) l2
    have m0 : (Str.ofString "Ratio(").length = 6 := by decide +kernel
    have m1 : (Str.ofString ", ").length = 2 := by decide +kernel
    have m2 : (Str.ofString ")").length = 1 := by decide +kernel
    have e0 : Str.empty.length = 0 := rfl
    have line := sizeLine_eq
    refine ⟨_, rfl, by rw [strLen_append]; omega, ?_⟩
    refine ⟨_, rfl, a, _, d, _, _, rfl, e, T.cl, T.nT, rfl, .inr ⟨_, rfl, l1, ?_⟩⟩
    refine ⟨_, rfl, by rw [strLen_append, strLen_append]; omega, ?_⟩
    refine ⟨_, rfl, by rw [strLen_append, strLen_append, strLen_append]; omega, ?_⟩
    refine ⟨_, rfl, a, _, d, _, _, rfl, e, T.cl, T.nB, rfl, .inr ⟨_, rfl, l2, ?_⟩⟩
    refine ⟨_, rfl, by rw [strLen_append, strLen_append, strLen_append, strLen_append]; omega, ?_⟩
    refine ⟨_, rfl, by rw [strLen_append, strLen_append, strLen_append, strLen_append, strLen_append]; omega, ?_⟩
    exact k
end
/-! ### repr of data, of numbers, of pairs of numbers, of pairs of cuts -/
def NumR (K : PySem.W.Frag) (H : Hp) (v : V) (z : Str) : Prop := (∃ i : Int, v = .int i ∧ i.natAbs.log2 < 1920 ∧ z = Str.ofString (toString i)) ∨ ∃ a q, v = .ref a ∧ RatAt K H a q ∧ Sz 900 q ∧ z = reprQ q
theorem NumR.same {K : PySem.W.Frag} {H H' : Hp} {v : V} {z : Str} (h : NumR K H v z) (k : Same H H') : NumR K H' v z := by
  rcases h with h | ⟨a, q, e, h, r⟩
  · exact .inl h
  · exact .inr ⟨a, q, e, h.same k, r⟩
def boolT (b : Bool) : Str := if b = true then Str.ofString "True" else Str.ofString "False"
def CutZ (K : PySem.W.Frag) (H : Hp) (v : V) (z : Str) : Prop := ∃ c u b y, v = .ref c ∧ H c = some (.tup [u, .bl b]) ∧ NumR K H u y ∧ z = tupleText [y, boolT b]
theorem CutZ.same {K : PySem.W.Frag} {H H' : Hp} {v : V} {z : Str} (h : CutZ K H v z) (k : Same H H') : CutZ K H' v z := by
  obtain ⟨c, u, b, y, e, hc, hu, r⟩ := h
  exact ⟨c, u, b, y, e, k _ _ hc, hu.same k, r⟩
def RepAt (K : PySem.W.Frag) (H : Hp) (v : V) (z : Str) : Prop := (∃ pd, Dq K H v pd ∧ pd.showable = true ∧ pd.depth ≤ 40 ∧ pd.shown.length ≤ sizeLine ∧ z = pd.shown) ∨ NumR K H v z ∨
  (∃ c u1 u2 y1 y2, v = .ref c ∧ H c = some (.tup [u1, u2]) ∧ NumR K H u1 y1 ∧ NumR K H u2 y2 ∧ z = tupleText [y1, y2]) ∨
  ∃ c u1 u2 y1 y2, v = .ref c ∧ H c = some (.tup [u1, u2]) ∧ CutZ K H u1 y1 ∧ CutZ K H u2 y2 ∧ z = tupleText [y1, y2]
theorem RepAt.same {K : PySem.W.Frag} {H H' : Hp} {v : V} {z : Str} (h : RepAt K H v z) (k : Same H H') : RepAt K H' v z := by
  rcases h with ⟨pd, h, r⟩ | h | ⟨c, u1, u2, y1, y2, e, hc, h1, h2, r⟩ | ⟨c, u1, u2, y1, y2, e, hc, h1, h2, r⟩
  · exact .inl ⟨pd, Dq.same k h, r⟩
  · exact .inr (.inl (h.same k))
  · exact .inr (.inr (.inl ⟨c, u1, u2, y1, y2, e, k _ _ hc, h1.same k, h2.same k, r⟩))
  · exact .inr (.inr (.inr ⟨c, u1, u2, y1, y2, e, k _ _ hc, h1.same k, h2.same k, r⟩))
theorem reprQ_len {q : Rat} (sz : Sz 900 q) : (reprQ q).length ≤ 3900 := by
  have l1 : q.num.natAbs.log2 < 1920 := Nat.lt_trans (log2_lt sz.1 (by decide)) (by decide)
  have l2 : (q.den : Int).natAbs.log2 < 1920 := Nat.lt_trans (log2_lt sz.den (by decide)) (by decide)
  have n1 : (Str.ofString (toString q.num)).length ≤ 1921 := by
    rw [PySem.ofString_length]
    exact int_text_length_le (by decide) l1
  have n2 : (Str.ofString (toString (q.den : Int))).length ≤ 1921 := by
    rw [PySem.ofString_length]
    exact int_text_length_le (by decide) l2
  have m0 : (Str.ofString "Ratio(").length = 6 := by decide +kernel
  have m1 : (Str.ofString ", ").length = 2 := by decide +kernel
  have m2 : (Str.ofString ")").length = 1 := by decide +kernel
  have e0 : Str.empty.length = 0 := rfl
  unfold reprQ
  rw [strLen_append, strLen_append, strLen_append, strLen_append, strLen_append]
  omega
theorem NumR.len {K : PySem.W.Frag} {H : Hp} {v : V} {z : Str} (h : NumR K H v z) : z.length ≤ 3900 := by
  rcases h with ⟨i, _, l, rfl⟩ | ⟨a, q, _, _, sz, rfl⟩
  · rw [PySem.ofString_length]
    exact Nat.le_trans (int_text_length_le (by decide) l) (by decide)
  · exact reprQ_len sz
theorem two_len {y1 y2 : Str} {n m : Nat} (h1 : y1.length ≤ n) (h2 : y2.length ≤ m) : (tupleText [y1, y2]).length ≤ n + m + 6 := by
  have t := PySem.fmt_text [y1, y2]
  have e : piled [y1, y2] = (y1.length + 2) + ((y2.length + 2) + 0) := by rw [piled_cons, piled_cons, piled_nil]
  omega
theorem boolT_len (b : Bool) : (boolT b).length ≤ 5 := by cases b <;> decide +kernel
theorem CutZ.len {K : PySem.W.Frag} {H : Hp} {v : V} {z : Str} (h : CutZ K H v z) : z.length ≤ 3920 := by
  obtain ⟨c, u, b, y, _, _, hu, rfl⟩ := h
  exact Nat.le_trans (two_len hu.len (boolT_len b)) (by decide)
def rRepZ (K : PySem.W.Frag) : List V → Hp → VK → Prop := fun xs H Q => ∃ (v : V) (z : Str), xs = [v] ∧ RepAt K H v z ∧ ∀ H', Same H H' → Q (.str z) H'
/-- what repr of a Ratio is done by -/
def RepF (P : Program) (w : World) (K : PySem.W.Frag) (mg : Str → Option Value) (base : Heap) : Prop := ∃ f fd, Meth K (aR K) "__repr__" f ∧ FnC P w K mg base 1 f fd ["self"] (spRepr K) ∧ Binds K fd ["self"] []
theorem reprG_num {Y : Cx} {as : List Addr} {H : Hp} {v : V} {z : Str} (R : RepF Y.prog Y.w Y.K Y.mg Y.base) (h : NumR Y.K H v z) : ReprG Y 1 as v z H := by
  obtain ⟨f, fd, B, F, hb⟩ := R
  rcases h with ⟨i, rfl, l, rfl⟩ | ⟨a, q, rfl, ha, sz, rfl⟩
  · exact ReprG.int l
  · obtain ⟨d, e⟩ := id ha
    exact ReprG.own B F hb e fun H1 k => ⟨a, q, rfl, ha.same k, sz, rfl, fun _ _ z => z⟩
theorem reprG_cut {Y : Cx} {H : Hp} {v : V} {z : Str} (R : RepF Y.prog Y.w Y.K Y.mg Y.base) (h : CutZ Y.K H v z) : ∃ c, v = .ref c ∧ ReprG Y 2 [c] v z H := by
  obtain ⟨c, u, b, y, rfl, hc, hu, rfl⟩ := h
  exact ⟨c, rfl, ReprG.tup hc (List.not_mem_nil) (.cons (reprG_num R hu) (.cons ReprG.bl .nil))⟩
theorem upG {Y : Cx} {n : Nat} {as : List Addr} {x : V} {t : Str} {H : Hp} {m : Nat} (h : ReprG Y n as x t H) (le : n ≤ m) : ReprG Y m as x t H := fun A g pins s σ H1 u b E Q sb => h A g pins s σ H1 u b E Q ⟨sb.room.mono le, sb.fr⟩
theorem call_repZ {Y : Cx} (S : SysK Y.K) (R : RepF Y.prog Y.w Y.K Y.mg Y.base) (gd : Y.A.guards = some []) (hr : L2H.RoomH 4 Y.A) : CallR Y (.builtin "repr") (rRepZ Y.K) := by
  intro pins s σ H xs us Q I r h
  obtain ⟨v, x, rfl, h, q⟩ := h
  have line := sizeLine_eq
  rcases h with ⟨pd, hv, sh, dp, sz, rfl⟩ | (⟨i, rfl, l, rfl⟩ | ⟨a, y, rfl, ha, sz, rfl⟩) | ⟨c, u1, u2, y1, y2, rfl, hc, h1, h2, rfl⟩ | ⟨c, u1, u2, y1, y2, rfl, hc, h1, h2, rfl⟩
  · exact call_reprV S gd (by have := hr.un; omega) pins s σ H [v] us Q I r ⟨v, pd, rfl, hv, sh, dp, sz, q H fun _ _ z => z⟩
  · obtain ⟨u, rfl, r1⟩ := vals1 r
    obtain ⟨t, rfl⟩ := (show ∃ t, u = Value.int i t from r1)
    exact PySem.P.repr_of_int l ⟨.str _, H, I.tok _, ⟨_, rfl⟩, q H fun _ _ z => z⟩
  · obtain ⟨f, fd, B, F, hb⟩ := R
    obtain ⟨d, e⟩ := id ha
    exact call_reprQ B F hb (hr.mono (by decide)) pins s σ H [.ref a] us Q I r ⟨a, d, _, rfl, e, a, y, rfl, ha, sz, _, rfl, q H fun _ _ z => z⟩
  · have n1 := h1.len
    have n2 := h2.len
    have n := two_len n1 n2
    exact call_reprG (n := 2) gd hr pins s σ H _ us Q I r ⟨c, _, _, [], rfl, SqT.of hc, List.not_mem_nil, .cons (upG (reprG_num R h1) (by decide)) (.cons (upG (reprG_num R h2) (by decide)) .nil), by omega, q⟩
  · have n1 := h1.len
    have n2 := h2.len
    have n := two_len n1 n2
    obtain ⟨c1, e1, g1⟩ := reprG_cut R h1
    obtain ⟨c2, e2, g2⟩ := reprG_cut R h2
    have ne : c ∉ [c1, c2] := by
      obtain ⟨d1, w1, b1, z1, f1, hd1, _⟩ := h1
      obtain ⟨d2, w2, b2, z2, f2, hd2, _⟩ := h2
      rw [e1] at f1
      rw [e2] at f2
      cases f1
      cases f2
      intro m
      simp only [List.mem_cons, List.not_mem_nil, or_false] at m
      rcases m with rfl | rfl
      · rw [hd1, e1, e2] at hc
        injection hc with hc
        injection hc with hc
        injection hc with _ hc
        injection hc with hc _
        cases hc
      · rw [hd2, e1, e2] at hc
        injection hc with hc
        injection hc with hc
        injection hc with _ hc
        injection hc with hc _
        cases hc
    exact call_reprG (n := 2) gd hr pins s σ H _ us Q I r ⟨c, _, _, [c1, c2], rfl, SqT.of hc, ne, .cons (g1.more (by simp)) (.cons (g2.more (by simp)) .nil), by omega, q⟩
/-! ### told -/
/-- the errors that this law hears of -/
structure EF (K : PySem.W.Frag) (mg : Str → Option Value) : Prop where
  xN : XC K (aIN K) .ve
  xC : XC K (aIC K) .ve
  xS : XC K (aIS K) .ve
  xR : XC K (aIR K) .ve
  gN : mg "InvalidNumber" = some (.ref (aIN K))
  gC : mg "InvalidCut" = some (.ref (aIC K))
  gS : mg "InvalidStretch" = some (.ref (aIS K))
  gR : mg "InvalidRange" = some (.ref (aIR K))
  nN : PySem.W.findIn K (.ref (aIN K)) "value" = some none
  nC : PySem.W.findIn K (.ref (aIC K)) "value" = some none
  nS : PySem.W.findIn K (.ref (aIS K)) "value" = some none
  nR : PySem.W.findIn K (.ref (aIR K)) "value" = some none
  nn : PySem.W.exmOne K (.ref (aIN K)) (.ref (aIN K)) = some true
  cn : PySem.W.exmOne K (.ref (aIC K)) (.ref (aIN K)) = some false
  cc : PySem.W.exmOne K (.ref (aIC K)) (.ref (aIC K)) = some true
  sn : PySem.W.exmOne K (.ref (aIS K)) (.ref (aIN K)) = some false
  sc : PySem.W.exmOne K (.ref (aIS K)) (.ref (aIC K)) = some false
  ss : PySem.W.exmOne K (.ref (aIS K)) (.ref (aIS K)) = some true
  rn : PySem.W.exmOne K (.ref (aIR K)) (.ref (aIN K)) = some false
  rc : PySem.W.exmOne K (.ref (aIR K)) (.ref (aIC K)) = some false
  rs : PySem.W.exmOne K (.ref (aIR K)) (.ref (aIS K)) = some false
  rr : PySem.W.exmOne K (.ref (aIR K)) (.ref (aIR K)) = some true
/-- what goes out: an error of the class at C whose value is shown so; all stands -/
def outZ (K : PySem.W.Frag) (C : Addr) (z : Str) (H : Hp) (E : XK) : Prop := ∀ d v H2, Same H H2 → H d = none → H2 d = some (.xd [("value", v)]) → RepAt K H2 v z → E (.ref C) (some d) H2
theorem none_of {H H1 : Hp} {p : Addr} (k : Same H H1) (n : H1 p = none) : H p = none := by
  cases e : H p with
  | none => rfl
  | some o =>
    have z := k _ _ e
    rw [n] at z
    cases z
theorem outZ.same {K : PySem.W.Frag} {C : Addr} {z : Str} {H H' : Hp} {E : XK} (h : outZ K C z H E) (k : Same H H') : outZ K C z H' E := fun d v H2 k2 n e r => h d v H2 (k.trans k2) (none_of k n) e r
/-- by which word an error is told -/
inductive Told (K : PySem.W.Frag) : Addr → Str → Prop
  | num : Told K (aIN K) "number"
  | cut : Told K (aIC K) "cut"
  | str : Told K (aIS K) "stretch"
  | rng : Told K (aIR K) "range"
/-- what is heard of a call that ends so -/
def TT11 (K : PySem.W.Frag) : (XK → Hp → VK → Prop) → Hp → VK → Prop := fun tl H Q =>
  ∃ (C : Addr) (n z : Str), Told K C n ∧ (∀ E H1 R, Same H H1 → outZ K C z H1 E → tl E H1 R) ∧ ∀ r H3, Same H H3 → H r = none → H3 r = some (.lst [.str n, .str z]) → Q (.ref r) H3
section
variable {mg : Str → Option Value}
theorem scTold : FnScope ["_law_call", "_law_heard", "e"] ["_law_call"] (defScope sTold) := ⟨rfl, rfl, rfl, by decide +kernel, rfl, by decide +kernel, by decide +kernel⟩
theorem told11 {X : Cx} {g : Addr} {cdg : Value} {q : Str} {k : Nat} (hm : X.mg = mg) (Z : EF X.K mg) (S : SysK X.K) (RR : RepF X.prog X.w X.K X.mg X.base) (rp : mg "repr" = none) (gd : X.A.guards = some []) :
    Gives X ["_law_call", "_law_heard", "e"] "_law_told" (defScope sTold) g cdg (defBody sTold) "_law_call" q (k + 4) (TT11 X.K) := by
  subst hm
  intro f c' s H Q tl room act hc h
  have r2 : Room 4 (X.A.deeper (envOfC "_law_told" (defScope sTold) s.heap.objs.size g cdg)) := room.mono (by omega)
  have RP : ∀ (Y : Cx), Y.prog = X.prog → Y.w = X.w → Y.K = X.K → Y.mg = X.mg → Y.base = X.base → Y.A.guards = X.A.guards → Y.A.units = (X.A.deeper (envOfC "_law_told" (defScope sTold) s.heap.objs.size g cdg)).units → Y.A.depth = (X.A.deeper (envOfC "_law_told" (defScope sTold) s.heap.objs.size g cdg)).depth → CallR Y (.builtin "repr") (rRepZ X.K) := fun Y e1 e2 e3 e4 e5 e6 e7 e8 => by
    rw [← e3]
    exact call_repZ (Y := Y) (by rw [e3]; exact S) (by rw [e1, e2, e3, e4, e5]; exact RR) (by rw [e6]; exact gd) ⟨by rw [e8]; exact r2.dp, by rw [e7]; exact r2.un⟩
  refine ⟨_, pss_cons (ps_set (i := 1) scTold.nd rfl (Or.inl rfl) (pe_lst (pa_cons pe_str pa_nil)))
    (pss_cons (ps_try_named rfl rfl scTold.nd LamX.takes0 (fun W pn xe tk => pss_one (ps_set (i := 1) scTold.nd rfl (Or.inl rfl) (pe_lst (pa_cons pe_str (pa_cons (pe_callB (RP _ rfl rfl rfl rfl rfl rfl rfl rfl) (by rfl) rp (by decide +kernel) (pa_cons (act W pn xe _ _ tk) pa_nil)) pa_nil)))))
      (Clauses.cons (c := .ref (aIN X.K)) (i := 2) rfl rfl ⟨rfl, by decide, .inl Z.gN⟩ (fun a oe cls d pn hz hf => pss_one (ps_set (i := 1) scTold.nd rfl (Or.inl rfl) (pe_lst (pa_cons pe_str (pa_cons (pe_callB (RP _ rfl rfl rfl rfl rfl rfl rfl rfl) (by rfl) rp (by decide +kernel) (pa_cons (pe_caught Z.xN hz hf (pv 2)) pa_nil)) pa_nil)))))
      (Clauses.cons (c := .ref (aIC X.K)) (i := 2) rfl rfl ⟨rfl, by decide, .inl Z.gC⟩ (fun a oe cls d pn hz hf => pss_one (ps_set (i := 1) scTold.nd rfl (Or.inl rfl) (pe_lst (pa_cons pe_str (pa_cons (pe_callB (RP _ rfl rfl rfl rfl rfl rfl rfl rfl) (by rfl) rp (by decide +kernel) (pa_cons (pe_caught Z.xC hz hf (pv 2)) pa_nil)) pa_nil)))))
      (Clauses.cons (c := .ref (aIS X.K)) (i := 2) rfl rfl ⟨rfl, by decide, .inl Z.gS⟩ (fun a oe cls d pn hz hf => pss_one (ps_set (i := 1) scTold.nd rfl (Or.inl rfl) (pe_lst (pa_cons pe_str (pa_cons (pe_callB (RP _ rfl rfl rfl rfl rfl rfl rfl rfl) (by rfl) rp (by decide +kernel) (pa_cons (pe_caught Z.xS hz hf (pv 2)) pa_nil)) pa_nil)))))
      (Clauses.cons (c := .ref (aIR X.K)) (i := 2) rfl rfl ⟨rfl, by decide, .inl Z.gR⟩ (fun a oe cls d pn hz hf => pss_one (ps_set (i := 1) scTold.nd rfl (Or.inl rfl) (pe_lst (pa_cons pe_str (pa_cons (pe_callB (RP _ rfl rfl rfl rfl rfl rfl rfl rfl) (by rfl) rp (by decide +kernel) (pa_cons (pe_caught Z.xR hz hf (pv 2)) pa_nil)) pa_nil)))))
      .nil)))))
    (pss_one (ps_ret (pv 1)))), ?_⟩
  refine ⟨(by show 1 ≤ sizeLine; decide), fun l nl => ?_⟩
  have u1 := same_new (o := .lst [V.str "other"]) nl
  have hc1 := u1 _ _ hc
  generalize upd H l (.lst [V.str "other"]) = H1 at *
  refine ⟨rfl, hc1, ?_⟩
  obtain ⟨C, n, z, tn, run, fin⟩ := h
  refine run _ _ _ u1 fun d v H2 k2 n2 e2 rp2 => ?_
  have fin' : ∀ p H3 H4, Same H2 H3 → H3 p = none → H4 = upd H3 p (.lst [.str n, .str z]) → Q (.ref p) H4 := by
    rintro p H3 _ k3 np rfl
    have k13 := (u1.trans k2).trans k3
    exact fin p _ (k13.trans (same_new np)) (none_of k13 np) upd_same
  cases tn with
  | num =>
    refine ⟨true, Z.nn, fun _ a na => ?_, (fun z => nomatch z)⟩
    refine ⟨_, rfl, rfl, rfl, _, _, Z.nN, .inr ⟨d, rfl, e2⟩, rfl, v, z, rfl, rp2, fun H3 k3 => ⟨(by show 2 ≤ sizeLine; decide), fun p np => ⟨_, rfl, fin' p H3 _ k3 np rfl⟩⟩⟩
  | cut =>
    refine ⟨false, Z.cn, (fun z => nomatch z), fun _ => ⟨true, Z.cc, fun _ a na => ?_, (fun z => nomatch z)⟩⟩
    refine ⟨_, rfl, rfl, rfl, _, _, Z.nC, .inr ⟨d, rfl, e2⟩, rfl, v, z, rfl, rp2, fun H3 k3 => ⟨(by show 2 ≤ sizeLine; decide), fun p np => ⟨_, rfl, fin' p H3 _ k3 np rfl⟩⟩⟩
  | str =>
    refine ⟨false, Z.sn, (fun z => nomatch z), fun _ => ⟨false, Z.sc, (fun z => nomatch z), fun _ => ⟨true, Z.ss, fun _ a na => ?_, (fun z => nomatch z)⟩⟩⟩
    refine ⟨_, rfl, rfl, rfl, _, _, Z.nS, .inr ⟨d, rfl, e2⟩, rfl, v, z, rfl, rp2, fun H3 k3 => ⟨(by show 2 ≤ sizeLine; decide), fun p np => ⟨_, rfl, fin' p H3 _ k3 np rfl⟩⟩⟩
  | rng =>
    refine ⟨false, Z.rn, (fun z => nomatch z), fun _ => ⟨false, Z.rc, (fun z => nomatch z), fun _ => ⟨false, Z.rs, (fun z => nomatch z), fun _ => ⟨true, Z.rr, fun _ a na => ?_, (fun z => nomatch z)⟩⟩⟩⟩
    refine ⟨_, rfl, rfl, rfl, _, _, Z.nR, .inr ⟨d, rfl, e2⟩, rfl, v, z, rfl, rp2, fun H3 k3 => ⟨(by show 2 ≤ sizeLine; decide), fun p np => ⟨_, rfl, fin' p H3 _ k3 np rfl⟩⟩⟩
end
end K18
set_option maxHeartbeats 4000000
namespace K18
open PySem PySem.Spec PyProof.Rows L2 GL
section
variable {K : PySem.W.Frag} {H : Hp} {w C dx : Addr} {fs : List (Str × V)}
end
/-- outer, its numbers Ratios -/
def spOuterR (K : PySem.W.Frag) : Sp := fun vs H Q _ => ∃ (s : Addr) (q r : Rat), vs = [.ref s] ∧ RngAt K H s q r ∧ ∀ t c1 c2 H', Same H H' → H' t = some (.tup [.ref c1, .ref c2]) → CutR K H' c1 q false → CutR K H' c2 r true → Q (.ref t) H'
theorem outer_imp {K : PySem.W.Frag} : ∀ vs H Q E, spOuter K vs H Q E → spOuterR K vs H Q E := by
  intro vs H Q E h
  obtain ⟨s, q, r, e, hs, k⟩ := h
  exact ⟨s, q, r, e, hs, fun t c1 c2 H' k' ht h1 h2 => k _ H' k' ⟨t, _, _, rfl, ht, h1.cut, h2.cut⟩⟩
section
variable {P : Program} {w : World} {K : PySem.W.Frag} {mg : Str → Option Value} {base : Heap}
theorem ok_outerR {f : Addr} {fd : FuncData} (F : FunD K "outer" "Range.outer" (defArgs (sRange 3)) (defBody (sRange 3)) (defScope (sRange 3)) [] [] f fd) (T : GF K mg) : FnOk P w K mg base CX0 1 f fd ["self"] (spOuterR K) := by
  refine F.ok scOuter (fun vs H Q E h => ?_) (fun cdv A outer s H vs Q E hr h => ?_)
  · obtain ⟨s, q, r, rfl, _⟩ := h
    rfl
  · obtain ⟨s, q, r, rfl, ⟨le, dx, a, b, es, ha, hb⟩, k⟩ := h
    refine ⟨_, pss_one (ps_ret (pe_tup (pa_cons (pe_tup (pa_cons (pe_fld (pv 0) rfl) (pa_cons pe_bl pa_nil))) (pa_cons (pe_tup (pa_cons (pe_fld (pv 0) rfl) (pa_cons pe_bl pa_nil))) pa_nil)))), ?_⟩
    refine ⟨_, rfl, s, _, dx, _, _, rfl, es, T.cl, T.nL, rfl, (by show 2 ≤ sizeLine; decide), fun t1 h1 => ?_⟩
    have s1 : Same H (upd H t1 (.tup [.ref a, .bl false])) := fun b o e => by rw [upd_ne (ne_of_none e h1)]; exact e
    refine ⟨_, rfl, s, _, dx, _, _, rfl, s1 _ _ es, T.cl, T.nH, rfl, (by show 2 ≤ sizeLine; decide), fun t2 h2 => ?_⟩
    generalize hH1 : upd H t1 (.tup [.ref a, .bl false]) = H1 at *
    have e1 : H1 t1 = some (.tup [.ref a, .bl false]) := by rw [← hH1]; exact upd_same
    have s2 : Same H1 (upd H1 t2 (.tup [.ref b, .bl true])) := fun b o e => by rw [upd_ne (ne_of_none e h2)]; exact e
    refine ⟨(by show 2 ≤ sizeLine; decide), fun t3 h3 => ?_⟩
    generalize hH2 : upd H1 t2 (.tup [.ref b, .bl true]) = H2 at *
    have e2 : H2 t2 = some (.tup [.ref b, .bl true]) := by rw [← hH2]; exact upd_same
    have s3 : Same H2 (upd H2 t3 (.tup [.ref t1, .ref t2])) := fun b o e => by rw [upd_ne (ne_of_none e h3)]; exact e
    exact k _ _ _ _ ((s1.trans s2).trans s3) upd_same ⟨a, s3 _ _ (s2 _ _ e1), ((ha.same s1).same s2).same s3⟩ ⟨b, s3 _ _ e2, ((hb.same s1).same s2).same s3⟩
/-! ### WayBack.__init__ -/
end
end K18
set_option maxHeartbeats 4000000
namespace K18
open PySem PySem.Spec PyProof.Rows L2 GL
abbrev sINi : Stmt := inClass (tp 4) 0
abbrev sICi : Stmt := inClass (tp 5) 0
abbrev sISi : Stmt := inClass (tp 6) 0
abbrev sIRi : Stmt := inClass (tp 7) 0
/-- how the errors are made -/
def MkE (P : Program) (w : World) (K : PySem.W.Frag) (mg : Str → Option Value) (base : Heap) (C : Addr) (fl : Str) : Prop := ∃ fI fd, PySem.W.findIn K (.ref C) "__init__" = some (some (.ref fI)) ∧ PySem.W.typeIn K (.ref fI) = some (.type "function") ∧ FnOk P w K mg base CX0 1 fI fd ["self", fl] (spInit C [fl]) ∧ Binds K fd ["self", fl] []
structure EM (P : Program) (w : World) (K : PySem.W.Frag) (mg : Str → Option Value) (base : Heap) : Prop where
  F : EF K mg
  mN : MkE P w K mg base (aIN K) "value"
  mC : MkE P w K mg base (aIC K) "value"
  mS : MkE P w K mg base (aIS K) "value"
  mR : MkE P w K mg base (aIR K) "value"
/-- not of the class at C -/
def NotA (K : PySem.W.Frag) (C : Addr) (H : Hp) (x : V) : Prop := ∃ t, TyX K H x t ∧ PySem.W.kitOne K t (.ref C) = some false
/-- no whole number -/
def NotI (K : PySem.W.Frag) (H : Hp) (x : V) : Prop := ∃ t b1 b2, TyX K H x t ∧ PySem.W.kitOne K t (.type "int") = some b1 ∧ (b1 = true → PySem.W.kitOne K t (.type "bool") = some b2) ∧ (b1 && !b2) = false
/-- no number -/
def NotN (K : PySem.W.Frag) (H : Hp) (x : V) : Prop := NotI K H x ∧ NotA K (aR K) H x
/-- what goes out: an error of the class at C with one field; all but s stands -/
def outK (C : Addr) (f : Str) (v : V) (s : Addr) (H : Hp) (E : XK) : Prop := ∀ d H2, Kp s H H2 → H d = none → H2 d = some (.xd [(f, v)]) → E (.ref C) (some d) H2
def outS (C : Addr) (f : Str) (v : V) (H : Hp) (E : XK) : Prop := ∀ d H2, Same H H2 → H d = none → H2 d = some (.xd [(f, v)]) → E (.ref C) (some d) H2
theorem outK.out {C : Addr} {f : Str} {v : V} {s : Addr} {H : Hp} {E : XK} (h : outK C f v s H E) : outS C f v H E := fun d H2 k n e => h d H2 (fun c o _ z => k c o z) n e
theorem outS.same {C : Addr} {f : Str} {v : V} {H H' : Hp} {E : XK} (h : outS C f v H E) (k : Same H H') : outS C f v H' E := fun d H2 k2 n e => h d H2 (k.trans k2) (none_of k n) e
/-- out of the making of a new object -/
theorem outS.new {C D : Addr} {f : Str} {v : V} {H : Hp} {E : XK} {x dx : Addr} {o1 o2 : HO} (h : outS C f v H E) (hx : H x = none) (hd : H dx = none) : outK C f v x (upd (upd H dx o1) x o2) E := fun d H2 k n e => by
  have up : Same H (upd (upd H dx o1) x o2) := fun b o z => by rw [upd_ne (ne_of_none z hx), upd_ne (ne_of_none z hd)]; exact z
  exact h d H2 (fun b o z => k b o (ne_of_none z hx) (up b o z)) (none_of up n) e
/-- no cut -/
def NotC (K : PySem.W.Frag) (H : Hp) (x : V) : Prop := (∃ t, TyX K H x t ∧ PySem.W.kitOne K t (.type "tuple") = some false) ∨ (∃ c vs, x = .ref c ∧ H c = some (.tup vs) ∧ vs.length ≠ 2) ∨ (∃ c u v, x = .ref c ∧ H c = some (.tup [u, v]) ∧ NotN K H u) ∨
  ∃ c i v t, x = .ref c ∧ H c = some (.tup [.int i, v]) ∧ TyX K H v t ∧ PySem.W.kitOne K t (.type "bool") = some false
section
variable {P : Program} {w : World} {K : PySem.W.Frag} {mg : Str → Option Value} {base : Heap}
theorem passE {X : Cx} {E : XK} (tk : Takes X fun cls d _ H => E cls d H) : Passes (L2.CX X.prog X.w) X E := passes_call tk fun _ _ _ _ h => h
theorem NotI.same {H H' : Hp} {x : V} (h : NotI K H x) (k : ∀ t, TyX K H x t → TyX K H' x t) : NotI K H' x := by
  obtain ⟨t, c1, c2, ty, r⟩ := h
  exact ⟨t, c1, c2, k t ty, r⟩
theorem TyX.same {H H' : Hp} {x : V} {t : Value} (h : TyX K H x t) (k : Same H H') : TyX K H' x t := by
  cases h with
  | base h =>
    refine .base ?_
    cases h with
    | non => exact .non
    | bl x => exact .bl x
    | int i => exact .int i
    | str x => exact .str x
    | flt x => exact .flt x
    | lst e => exact .lst (k _ _ e)
    | frz e => exact .frz (k _ _ e)
    | tup e => exact .tup (k _ _ e)
    | dK e => exact .dK (k _ _ e)
    | dT e => exact .dT (k _ _ e)
    | ins e cl ha hn htk hm => exact .ins (k _ _ e) cl ha hn htk hm
  | byt b => exact .byt b
  | set e => exact .set (k _ _ e)
  | kList e c => exact .kList e c
  | kTuple e c => exact .kTuple e c
  | kDict e c => exact .kDict e c
  | fTuple e => exact .fTuple (k _ _ e)
  | fDict e => exact .fDict (k _ _ e)
theorem NotN.same {H H' : Hp} {x : V} (h : NotN K H x) (k : Same H H') : NotN K H' x := by
  obtain ⟨a, t, ty, no⟩ := h
  exact ⟨a.same fun t ty => TyX.same ty k, t, TyX.same ty k, no⟩
theorem NotA.same {H H' : Hp} {C : Addr} {x : V} (h : NotA K C H x) (k : Same H H') : NotA K C H' x := by
  obtain ⟨t, ty, no⟩ := h
  exact ⟨t, TyX.same ty k, no⟩
theorem NotC.same {H H' : Hp} {x : V} (h : NotC K H x) (k : Same H H') : NotC K H' x := by
  rcases h with ⟨t, ty, no⟩ | ⟨c, vs, e, hc, ne⟩ | ⟨c, u, v, e, hc, no⟩ | ⟨c, i, v, t, e, hc, ty, no⟩
  · exact .inl ⟨t, TyX.same ty k, no⟩
  · exact .inr (.inl ⟨c, vs, e, k _ _ hc, ne⟩)
  · exact .inr (.inr (.inl ⟨c, u, v, e, k _ _ hc, no.same k⟩))
  · exact .inr (.inr (.inr ⟨c, i, v, t, e, k _ _ hc, TyX.same ty k, no⟩))
/-- no stretch -/
def NotS (K : PySem.W.Frag) (H : Hp) (x : V) : Prop := (∃ t, TyX K H x t ∧ PySem.W.kitOne K t (.type "tuple") = some false) ∨ (∃ c vs, x = .ref c ∧ H c = some (.tup vs) ∧ vs.length ≠ 2) ∨ (∃ c u v, x = .ref c ∧ H c = some (.tup [u, v]) ∧ NotC K H u) ∨
  (∃ c u v q b, x = .ref c ∧ H c = some (.tup [u, v]) ∧ CutAt K H u q b ∧ NotC K H v) ∨ ∃ q b r c, PairAt K H x q b r c ∧ Sz 100000 q ∧ Sz 100000 r ∧ cAhead q b r c = false
theorem NotS.same {H H' : Hp} {x : V} (h : NotS K H x) (k : Same H H') : NotS K H' x := by
  rcases h with ⟨t, ty, no⟩ | ⟨c, vs, e, hc, ne⟩ | ⟨c, u, v, e, hc, no⟩ | ⟨c, u, v, q, b, e, hc, hu, no⟩ | ⟨q, b, r, c, h, z⟩
  · exact .inl ⟨t, TyX.same ty k, no⟩
  · exact .inr (.inl ⟨c, vs, e, k _ _ hc, ne⟩)
  · exact .inr (.inr (.inl ⟨c, u, v, e, k _ _ hc, no.same k⟩))
  · exact .inr (.inr (.inr (.inl ⟨c, u, v, q, b, e, k _ _ hc, hu.same k, no.same k⟩)))
  · exact .inr (.inr (.inr (.inr ⟨q, b, r, c, h.same k, z⟩)))
/-! ### Ratio of what is no number -/
def spRInitX (K : PySem.W.Frag) : Sp := fun vs H _ E => ∃ (s : Addr) (x y : V), vs = [.ref s, x, y] ∧ NotI K H x ∧ outS (aIN K) "value" x H E
theorem ok_rInitX {f : Addr} {fd : FuncData} {dv : List V} (F : FunD K "__init__" "Ratio.__init__" (defArgs (sRatio 0)) (defBody (sRatio 0)) (defScope (sRatio 0)) dv [] f fd) (G : RG P w K mg base) (Z : EM P w K mg base) : FnOk P w K mg base (L2.CX P w) 3 f fd ["self", "top", "bottom"] (spRInitX K) := by
  obtain ⟨fI, fdI, GI, gI, bI, kI⟩ := G.isInt
  obtain ⟨fN, fdN, i1, i2, GN, bN⟩ := Z.mN
  refine F.ok scRInit (fun vs H Q E h => ?_) (fun cdv A outer s H vs Q E hr h => ?_)
  · obtain ⟨s, x, y, rfl, _⟩ := h
    rfl
  · obtain ⟨s', x, y, rfl, ⟨t, c1, c2, ty, k1, k2, e⟩, out⟩ := h
    have r1 : Room 1 _ := hr.mono (by decide)
    refine ⟨_, pss_cons (ps_if (pt_not (pt_val (pe_call GI r1 rfl gI kI bI .nil pass0 (pa_cons (pv 1) pa_nil)))) (pss_one (ps_raise rfl (takes_of rfl rfl rfl rfl) (pmk_x Z.F.xN i1 i2 GN hr bN rfl Z.F.gN (pa_cons (pv 1) pa_nil)))) pss_nil)
      (pss_cons ps_never (pss_cons ps_never (pss_cons ps_never (pss_one ps_never)))), ?_⟩
    refine ⟨_, rfl, x, t, c1, c2, rfl, ty, k1, k2, (c1 && !c2), rfl, ?_⟩
    rw [e]
    exact iteT ⟨_, rfl, rfl, by show 1 ≤ 1000; decide, fun d H2 k2 n2 e2 => out d H2 k2 n2 e2⟩
def spOfX (K : PySem.W.Frag) : Sp := fun vs H _ E => ∃ x : V, vs = [.ref (aR K), x] ∧ NotN K H x ∧ outS (aIN K) "value" x H E
theorem ok_ofX {f fI : Addr} {fd fdI : FuncData} (F : FunD K "of" "Ratio.of" (defArgs (sRatio 1)) (defBody (sRatio 1)) (defScope (sRatio 1)) [] [] f fd) (G : RG P w K mg base) {d : Value} (MR : Mk K (aR K) fI) (GR : FnOk P w K mg base (L2.CX P w) 3 fI fdI ["self", "top", "bottom"] (spRInitX K)) (vd : Vals [V.int 1] [d]) (bR : Binds K fdI ["self", "top", "bottom"] [d]) :
    FnOk P w K mg base (L2.CX P w) 5 f fd ["cls", "number"] (spOfX K) := by
  have T := G.T
  refine F.ok scOf (fun vs H Q E h => ?_) (fun cdv A outer s H vs Q E hr h => ?_)
  · obtain ⟨x, rfl, _⟩ := h
    rfl
  · obtain ⟨x, rfl, ⟨ni, t, ty, no⟩, out⟩ := h
    refine ⟨_, pss_cons (ps_if (pt_val (pe_callB call_isi (by rfl) T.isi (by decide +kernel) (pa_cons (pv 1) (pa_cons (pe_glob (v := .ref (aR K)) rfl T.gR rfl) pa_nil)))) (pss_one (ps_ret (pv 1))) pss_nil)
      (pss_one (ps_ret (pe_make MR GR hr rfl T.gR bR vd (passE (takes_of rfl rfl rfl rfl)) (pa_cons (pv 1) pa_nil)))), ?_⟩
    refine ⟨_, rfl, x, .ref (aR K), t, _, false, rfl, .own _, ty, no, false, rfl, iteF ⟨_, rfl, fun a dx ha hd ne => ?_⟩⟩
    have up : Same H (upd (upd H dx (.own a)) a (.ins (aR K) dx [])) := fun b o e => by rw [upd_ne (ne_of_none e ha), upd_ne (ne_of_none e hd)]; exact e
    exact ⟨a, x, .int 1, rfl, ni.same fun t ty => TyX.same ty up, out.same up⟩
def OfX (P : Program) (w : World) (K : PySem.W.Frag) (mg : Str → Option Value) (base : Heap) : Prop := ∃ mc p f, ClX.CRead K (aR K) mc ∧ ClX.CMet K (aR K) mc "of" p f ∧ FnR P w K mg base (L2.CX P w) 5 f (spOfX K)
/-! ### is_number of what is none -/
def spNumX (K : PySem.W.Frag) : Sp := fun vs H Q _ => ∃ x : V, vs = [x] ∧ NotN K H x ∧ Q (.bl false) H
theorem ok_numX {f : Addr} {fd : FuncData} (F : Fun K "is_number" "is_number" sIsNum f fd) (G : RG P w K mg base) : FnOk P w K mg base CX0 2 f fd ["value"] (spNumX K) := by
  obtain ⟨fI, fdI, GI, gI, bI, kI⟩ := G.isInt
  have T := G.T
  refine F.ok scIsNum (fun vs H Q E h => ?_) (fun cdv A outer s H vs Q E hr h => ?_)
  · obtain ⟨x, rfl, _⟩ := h
    rfl
  · obtain ⟨x, rfl, ⟨⟨t, c1, c2, ty, k1, k2, e⟩, ⟨t2, ty2, no⟩⟩, k⟩ := h
    refine ⟨_, pss_one (ps_ret (pe_or (pe_callB call_isi (by rfl) T.isi (by decide +kernel) (pa_cons (pv 0) (pa_cons (pe_glob (v := .ref (aR K)) rfl T.gR rfl) pa_nil)))
      (pe_one (pe_call GI hr rfl gI kI bI .nil pass0 (pa_cons (pv 0) pa_nil))))), ?_⟩
    refine ⟨_, rfl, x, .ref (aR K), t2, _, false, rfl, .own _, ty2, no, false, rfl, iteF ⟨_, rfl, x, t, c1, c2, rfl, ty, k1, k2, ?_⟩⟩
    rw [e]
    exact k
/-! ### is_cut of what is none -/
def spIsCutX (K : PySem.W.Frag) : Sp := fun vs H Q _ => ∃ x : V, vs = [x] ∧ NotC K H x ∧ Q (.bl false) H
theorem ok_isCutX {f fN : Addr} {fd fdN : FuncData} (F : Fun K "is_cut" "is_cut" sIsCut f fd) (I : RI P w K mg base) (FN : Fun K "is_number" "is_number" sIsNum fN fdN) (gN : mg "is_number" = some (.ref fN)) (bN : Binds K fdN ["value"] []) (kN : FnOk P w K mg base CX0 2 fN fdN ["value"] (spIsNum K)) : FnOk P w K mg base CX0 3 f fd ["value"] (spIsCutX K) := by
  have GX := ok_numX (P := P) (w := w) (base := base) FN I.R.G
  have GN : FnOk P w K mg base CX0 2 fN fdN ["value"] (fun vs H Q E => spIsNum K vs H Q E ∨ spNumX K vs H Q E) := ⟨fun vs H Q E h => h.elim (kN.len vs H Q E) (GX.len vs H Q E), fun A outer s H args us vs Q E hr he hb hv h => h.elim (kN.run A outer s H args us vs Q E hr he hb hv) (GX.run A outer s H args us vs Q E hr he hb hv)⟩
  have T := I.R.G.T
  refine F.ok scIsCut (fun vs H Q E h => ?_) (fun cdv A outer s H vs Q E hr h => ?_)
  · obtain ⟨x, rfl, _⟩ := h
    rfl
  · obtain ⟨x, rfl, no, k⟩ := h
    refine ⟨_, pss_one (ps_ret (pe_and (pe_callB call_isi (by rfl) T.isi (by decide +kernel) (pa_cons (pv 0) (pa_cons (pe_bltn (v := .ty "tuple") (by rfl) I.tuple (by decide +kernel) rfl) pa_nil)))
      (pe_and (pe_cmpR op_eq (pe_callB call_len_seq (by rfl) I.len PySem.boot_len (pa_cons (pv 0) pa_nil)) pe_int (nomark _))
      (pe_and (pe_call GN hr rfl gN FN.kp bN .nil pass0 (pa_cons (pe_ix ix_tup (pv 0) pe_int (fun _ _ => rfl)) pa_nil))
      (pe_one (pe_callB call_isi (by rfl) T.isi (by decide +kernel) (pa_cons (pe_ix ix_tup (pv 0) pe_int (fun _ _ => rfl)) (pa_cons (pe_bltn (v := .ty "bool") (by rfl) T.bool (by decide +kernel) rfl) pa_nil)))))))), ?_⟩
    rcases no with ⟨t, ty, no⟩ | ⟨c, vs, rfl, hc, ne⟩ | ⟨c, u, v, rfl, hc, no⟩ | ⟨c, i, j, tj, rfl, hc, tyj, noj⟩
    · exact ⟨_, rfl, x, .ty "tuple", t, _, false, rfl, .ty _, ty, no, false, rfl, iteF k⟩
    · refine ⟨_, rfl, .ref c, .ty "tuple", .type "tuple", _, true, rfl, .ty _, .base (.tup hc), kit_ty (by decide +kernel), true, rfl, iteT ?_⟩
      refine ⟨_, rfl, c, _, rfl, .inr (SqT.of hc), rfl, _, rfl, ?_⟩
      have e : decide (V.int (vs.length : Int) = V.int 2) = false := decide_eq_false (fun z => by injection z with z; omega)
      rw [e]
      exact iteF k
    · refine ⟨_, rfl, .ref c, .ty "tuple", .type "tuple", _, true, rfl, .ty _, .base (.tup hc), kit_ty (by decide +kernel), true, rfl, iteT ?_⟩
      refine ⟨_, rfl, c, _, rfl, .inr (SqT.of hc), rfl, _, rfl, iteT ?_⟩
      exact ⟨_, rfl, c, _, _, u, rfl, rfl, SqT.of hc, rfl, .inr ⟨u, rfl, no, false, rfl, iteF k⟩⟩
    · refine ⟨_, rfl, .ref c, .ty "tuple", .type "tuple", _, true, rfl, .ty _, .base (.tup hc), kit_ty (by decide +kernel), true, rfl, iteT ?_⟩
      refine ⟨_, rfl, c, _, rfl, .inr (SqT.of hc), rfl, _, rfl, iteT ?_⟩
      refine ⟨_, rfl, c, _, _, .int i, rfl, rfl, SqT.of hc, rfl, .inl ⟨.int i, (i : Rat), rfl, .inl ⟨i, rfl, rfl⟩, true, rfl, iteT ?_⟩⟩
      exact ⟨_, rfl, c, _, _, j, rfl, rfl, SqT.of hc, rfl, j, .ty "bool", tj, _, false, rfl, .ty _, tyj, noj, k⟩
/-! ### ratio_cut -/
def spRatioCutB (K : PySem.W.Frag) : Sp := fun vs H Q E => spRatioCut K vs H Q E ∨ ∃ x : V, vs = [x] ∧ NotC K H x ∧ outS (aIC K) "value" x H E
theorem ok_ratioCutB {f fC : Addr} {fd fdC : FuncData} (F : Fun K "ratio_cut" "ratio_cut" sRatioCut f fd) (I : RI P w K mg base) (Z : EM P w K mg base) (gC : mg "is_cut" = some (.ref fC)) (kC : PySem.W.keepIn K (.ref fC) = true) (bC : Binds K fdC ["value"] [])
    (G0 : FnOk P w K mg base CX0 3 fC fdC ["value"] (spIsCut K)) (GX : FnOk P w K mg base CX0 3 fC fdC ["value"] (spIsCutX K)) : FnOk P w K mg base (L2.CX P w) 5 f fd ["cut"] (spRatioCutB K) := by
  have GC : FnOk P w K mg base CX0 3 fC fdC ["value"] (fun vs H Q E => spIsCut K vs H Q E ∨ spIsCutX K vs H Q E) := ⟨fun vs H Q E h => h.elim (G0.len vs H Q E) (GX.len vs H Q E), fun A outer s H args us vs Q E hr he hb hv h => h.elim (G0.run A outer s H args us vs Q E hr he hb hv) (GX.run A outer s H args us vs Q E hr he hb hv)⟩
  obtain ⟨mc, pp, fo, cr, cm, GO⟩ := I.R.of
  obtain ⟨fM, fdM, i1, i2, GM, bM⟩ := Z.mC
  have T := I.R.G.T
  refine F.okX scRatioCut (fun vs H Q E h => ?_) (fun cdv A outer s H vs Q E hr h => ?_)
  · rcases h with ⟨x, q, b, rfl, _⟩ | ⟨x, rfl, _⟩ <;> rfl
  · refine ⟨_, pss_cons (ps_if (pt_not (pt_val (pe_call GC (hr.mono (by decide)) rfl gC kC bC .nil pass0 (pa_cons (pv 0) pa_nil)))) (pss_one (ps_raise rfl (takes_of rfl rfl rfl rfl) (pmk_x Z.F.xC i1 i2 GM (hr.mono (by decide)) bM rfl Z.F.gC (pa_cons (pv 0) pa_nil)))) pss_nil)
      (pss_one (ps_ret (pe_tup (pa_cons (ClX.pe_cmeth (pe_glob (v := .ref (aR K)) rfl T.gR rfl) cr cm GO hr pass0 (pa_cons (pe_ix ix_tup (pv 0) pe_int (fun _ _ => rfl)) pa_nil)) (pa_cons (pe_ix ix_tup (pv 0) pe_int (fun _ _ => rfl)) pa_nil))))), ?_⟩
    rcases h with ⟨x, q, b, rfl, hx, k⟩ | ⟨x, rfl, no, out⟩
    · refine ⟨_, rfl, .inl ⟨x, q, b, rfl, hx, true, rfl, iteF ?_⟩⟩
      obtain ⟨c, v, rfl, hc, hv⟩ := hx
      refine ⟨rfl, _, rfl, c, _, _, v, rfl, rfl, SqT.of hc, rfl, v, q, rfl, hv, fun p H' kp hp => ?_⟩
      refine ⟨_, rfl, c, _, _, .bl b, rfl, rfl, SqT.of (kp _ _ hc), rfl, (by show 2 ≤ sizeLine; decide), fun t ht => ?_⟩
      have up : Same H' (upd H' t (.tup [.ref p, .bl b])) := fun b o e => by rw [upd_ne (ne_of_none e ht)]; exact e
      exact k t p _ (kp.trans up) upd_same (hp.same up)
    · exact ⟨_, rfl, .inr ⟨x, rfl, no, false, rfl, iteT ⟨_, rfl, rfl, by show 1 ≤ 1000; decide, fun d H2 k2 n2 e2 => out d H2 k2 n2 e2⟩⟩⟩
end
end K18
set_option maxHeartbeats 4000000
namespace K18
open PySem PySem.Spec PyProof.Rows L2 GL
section
variable {P : Program} {w : World} {K : PySem.W.Frag} {mg : Str → Option Value} {base : Heap}
def DefX (P : Program) (w : World) (K : PySem.W.Frag) (mg : Str → Option Value) (base : Heap) (x : Str) (k : Nat) (ps : List Str) (sp : Sp) : Prop := ∃ f fd, FnOk P w K mg base (L2.CX P w) k f fd ps sp ∧ mg x = some (.ref f) ∧ Binds K fd ps [] ∧ PySem.W.keepIn K (.ref f) = true
theorem orFn {CX : CXT} {k : Nat} {f : Addr} {fd : FuncData} {ps : List Str} {s1 s2 : Sp} (a : FnOk P w K mg base CX k f fd ps s1) (b : FnOk P w K mg base CX k f fd ps s2) : FnOk P w K mg base CX k f fd ps (fun vs H Q E => s1 vs H Q E ∨ s2 vs H Q E) := ⟨fun vs H Q E h => h.elim (a.len vs H Q E) (b.len vs H Q E), fun A outer s H args us vs Q E hr he hb hv h => h.elim (a.run A outer s H args us vs Q E hr he hb hv) (b.run A outer s H args us vs Q E hr he hb hv)⟩
/-! ### is_ahead of what is none -/
def spAheadX (K : PySem.W.Frag) : Sp := fun vs H Q E => ∃ x y : V, vs = [x, y] ∧ ((NotC K H x ∧ outS (aIC K) "value" x H E) ∨ ∃ q b, CutAt K H x q b ∧ NotC K H y ∧ outS (aIC K) "value" y H E)
theorem ok_aheadX {f : Addr} {fd : FuncData} (F : Fun K "is_ahead" "is_ahead" sIsAhead f fd) (rc : DefX P w K mg base "ratio_cut" 5 ["cut"] (spRatioCutB K)) (pr : DefF P w K mg base "precedes" 6 ["one", "other"] (spPrec K)) : FnOk P w K mg base (L2.CX P w) 7 f fd ["one", "other"] (spAheadX K) := by
  obtain ⟨fC, fdC, GC, gC, bC, kC⟩ := rc
  obtain ⟨fP, fdP, GP, gP, bP, kP⟩ := pr
  refine F.okX scIsAhead (fun vs H Q E h => ?_) (fun cdv A outer s H vs Q E hr h => ?_)
  · obtain ⟨x, y, rfl, _⟩ := h
    rfl
  · obtain ⟨x, y, rfl, h⟩ := h
    refine ⟨_, pss_one (ps_ret (pe_call GP hr rfl gP kP bP .nil pass0 (pa_cons (pe_call GC (hr.mono (by decide)) rfl gC kC bC .nil (passE (takes_of rfl rfl rfl rfl)) (pa_cons (pv 0) pa_nil)) (pa_cons (pe_call GC (hr.mono (by decide)) rfl gC kC bC .nil (passE (takes_of rfl rfl rfl rfl)) (pa_cons (pv 1) pa_nil)) pa_nil)))), ?_⟩
    rcases h with ⟨no, out⟩ | ⟨q, b, hx, no, out⟩
    · exact ⟨_, rfl, .inr ⟨x, rfl, no, out⟩⟩
    · exact ⟨_, rfl, .inl ⟨x, q, b, rfl, hx, fun c1 z1 H1 k1 hc1 hz1 => ⟨_, rfl, .inr ⟨y, rfl, no.same k1, out.same k1⟩⟩⟩⟩
/-! ### is_above of what is none -/
def spAboveN (K : PySem.W.Frag) : Sp := fun vs H Q E => ∃ y x : V, vs = [y, x] ∧ NotN K H y ∧ outS (aIN K) "value" y H E
theorem ok_aboveN {f : Addr} {fd : FuncData} (F : Fun K "is_above" "is_above" sIsAbove f fd) (T : RF K mg) (ox : OfX P w K mg base) : FnOk P w K mg base (L2.CX P w) 6 f fd ["number", "cut"] (spAboveN K) := by
  obtain ⟨mc, pp, fo, cr, cm, GO⟩ := ox
  refine F.okX scIsAbove (fun vs H Q E h => ?_) (fun cdv A outer s H vs Q E hr h => ?_)
  · obtain ⟨y, x, rfl, _⟩ := h
    rfl
  · obtain ⟨y, x, rfl, no, out⟩ := h
    refine ⟨_, pss_cons (ps_set (i := 2) scIsAbove.nd rfl (Or.inl rfl) (ClX.pe_cmeth (pe_glob (v := .ref (aR K)) rfl T.gR rfl) cr cm GO hr (passE (takes_of rfl rfl rfl rfl)) (pa_cons (pv 0) pa_nil)))
      (pss_cons ps_never (pss_cons ps_never (pss_one ps_never))), ?_⟩
    exact ⟨rfl, _, rfl, y, rfl, no, out⟩
def spAboveC (K : PySem.W.Frag) : Sp := fun vs H Q E => ∃ (y x : V) (r : Rat), vs = [y, x] ∧ NumAt K H y r ∧ NotC K H x ∧ outS (aIC K) "value" x H E
theorem ok_aboveC {f : Addr} {fd : FuncData} (F : Fun K "is_above" "is_above" sIsAbove f fd) (J : RJ P w K mg base) (rc : DefX P w K mg base "ratio_cut" 5 ["cut"] (spRatioCutB K)) : FnOk P w K mg base (L2.CX P w) 6 f fd ["number", "cut"] (spAboveC K) := by
  obtain ⟨fC, fdC, GC, gC, bC, kC⟩ := rc
  obtain ⟨mc, pp, fo, cr, cm, GO⟩ := J.I.R.of
  have T := J.I.R.G.T
  refine F.okX scIsAbove (fun vs H Q E h => ?_) (fun cdv A outer s H vs Q E hr h => ?_)
  · obtain ⟨y, x, r, rfl, _⟩ := h
    rfl
  · obtain ⟨y, x, r, rfl, hy, no, out⟩ := h
    refine ⟨_, pss_cons (ps_set (i := 2) scIsAbove.nd rfl (Or.inl rfl) (ClX.pe_cmeth (pe_glob (v := .ref (aR K)) rfl T.gR rfl) cr cm GO (hr.mono (by decide)) pass0 (pa_cons (pv 0) pa_nil)))
      (pss_cons (ps_asg (pe_call GC hr rfl gC kC bC .nil (passE (takes_of rfl rfl rfl rfl)) (pa_cons (pv 1) pa_nil)) (pg_tup (by rfl) (pgs_cons (pg_name (i := 3) scIsAbove.nd rfl (.inl rfl)) (pgs_cons (pg_name (i := 4) scIsAbove.nd rfl (.inl rfl)) pgs_nil))))
      (pss_cons ps_never (pss_one ps_never))), ?_⟩
    exact ⟨rfl, _, rfl, y, r, rfl, hy, fun p H1 k1 hp => ⟨_, rfl, .inr ⟨x, rfl, no.same k1, out.same k1⟩⟩⟩
/-! ### is_stretch of what is none -/
def spStretchX (K : PySem.W.Frag) : Sp := fun vs H Q _ => ∃ x : V, vs = [x] ∧ NotS K H x ∧ ∀ H', Same H H' → Q (.bl false) H'
def spIsCutA (K : PySem.W.Frag) : Sp := fun vs H Q E => spIsCut K vs H Q E ∨ spIsCutX K vs H Q E
theorem ok_stretchX {f : Addr} {fd : FuncData} (F : Fun K "is_stretch" "is_stretch" sIsStretch f fd) (C : RK P w K mg base) (ic : DefF P w K mg base "is_cut" 3 ["value"] (spIsCutA K)) : FnOk P w K mg base CX0 8 f fd ["value"] (spStretchX K) := by
  obtain ⟨fC, fdC, GC, gC, bC, kC⟩ := ic
  obtain ⟨fA, fdA, GA, gA, bA, kA⟩ := C.ahead
  have T := C.J.I.R.G.T
  have I := C.J.I
  refine F.ok scIsStretch (fun vs H Q E h => ?_) (fun cdv A outer s H vs Q E hr h => ?_)
  · obtain ⟨x, rfl, _⟩ := h
    rfl
  · obtain ⟨x, rfl, no, k⟩ := h
    refine ⟨_, pss_cons (ps_if (PW.pt (pw_or (pt_not (pt_val (pe_callB call_isi (by rfl) T.isi (by decide +kernel) (pa_cons (pv 0) (pa_cons (pe_bltn (v := .ty "tuple") (by rfl) I.tuple (by decide +kernel) rfl) pa_nil)))))
        (pw_or1 (pt_cmpR op_ne (pe_callB call_len_seq (by rfl) I.len PySem.boot_len (pa_cons (pv 0) pa_nil)) pe_int (nomark _))))) (pss_one (ps_ret pe_bl)) pss_nil)
      (pss_one (ps_ret (pe_and (pe_call GC (hr.mono (by decide)) rfl gC kC bC .nil pass0 (pa_cons (pe_ix ix_tup (pv 0) pe_int (fun _ _ => rfl)) pa_nil))
        (pe_and (pe_call GC (hr.mono (by decide)) rfl gC kC bC .nil pass0 (pa_cons (pe_ix ix_tup (pv 0) pe_int (fun _ _ => rfl)) pa_nil))
        (pe_one (pe_call GA hr rfl gA kA bA .nil pass0 (pa_cons (pe_ix ix_tup (pv 0) pe_int (fun _ _ => rfl)) (pa_cons (pe_ix ix_tup (pv 0) pe_int (fun _ _ => rfl)) pa_nil)))))))), ?_⟩
    have k0 : Q (.bl false) H := k H fun _ _ e => e
    rcases no with ⟨t, ty, no⟩ | ⟨c, vs, rfl, hc, ne⟩ | ⟨c, u, v, rfl, hc, no⟩ | ⟨c, u, v, q, b, rfl, hc, hu, no⟩ | ⟨q, b, r, c, ⟨t, u, v, rfl, ht, hu, hv⟩, sq, sr, ah⟩
    · exact ⟨_, rfl, x, .ty "tuple", t, _, false, rfl, .ty _, ty, no, false, rfl, iteT k0⟩
    · refine ⟨_, rfl, .ref c, .ty "tuple", .type "tuple", _, true, rfl, .ty _, .base (.tup hc), kit_ty (by decide +kernel), true, rfl, iteF ?_⟩
      refine ⟨_, rfl, c, _, rfl, .inr (SqT.of hc), rfl, _, rfl, ?_⟩
      have e : decide (V.int (vs.length : Int) = V.int 2) = false := decide_eq_false (fun z => by injection z with z; omega)
      have e2 : (!decide (V.int (vs.length : Int) = V.int 2)) = true := by rw [e]; rfl
      first
        | exact iteT k0
        | (rw [e2]; exact iteT k0)
        | (refine ite2 (fun _ => k0) (fun z => absurd e2 z))
    · refine ⟨_, rfl, .ref c, .ty "tuple", .type "tuple", _, true, rfl, .ty _, .base (.tup hc), kit_ty (by decide +kernel), true, rfl, iteF ?_⟩
      refine ⟨_, rfl, c, _, rfl, .inr (SqT.of hc), rfl, _, rfl, iteF ?_⟩
      exact ⟨_, rfl, c, _, _, u, rfl, rfl, SqT.of hc, rfl, .inr ⟨u, rfl, no, false, rfl, iteF k0⟩⟩
    · refine ⟨_, rfl, .ref c, .ty "tuple", .type "tuple", _, true, rfl, .ty _, .base (.tup hc), kit_ty (by decide +kernel), true, rfl, iteF ?_⟩
      refine ⟨_, rfl, c, _, rfl, .inr (SqT.of hc), rfl, _, rfl, iteF ?_⟩
      refine ⟨_, rfl, c, _, _, u, rfl, rfl, SqT.of hc, rfl, .inl ⟨u, q, b, rfl, hu, true, rfl, iteT ?_⟩⟩
      exact ⟨_, rfl, c, _, _, v, rfl, rfl, SqT.of hc, rfl, .inr ⟨v, rfl, no, false, rfl, iteF k0⟩⟩
    · refine ⟨_, rfl, .ref t, .ty "tuple", .type "tuple", _, true, rfl, .ty _, .base (.tup ht), kit_ty (by decide +kernel), true, rfl, iteF ?_⟩
      refine ⟨_, rfl, t, _, rfl, .inr (SqT.of ht), rfl, _, rfl, iteF ?_⟩
      refine ⟨_, rfl, t, _, _, u, rfl, rfl, SqT.of ht, rfl, .inl ⟨u, q, b, rfl, hu, true, rfl, iteT ?_⟩⟩
      refine ⟨_, rfl, t, _, _, v, rfl, rfl, SqT.of ht, rfl, .inl ⟨v, r, c, rfl, hv, true, rfl, iteT ?_⟩⟩
      refine ⟨_, rfl, t, _, _, u, rfl, rfl, SqT.of ht, rfl, _, rfl, t, _, _, v, rfl, rfl, SqT.of ht, rfl, u, v, q, r, b, c, rfl, hu, hv, sq, sr, fun H' k' => ?_⟩
      rw [ah]
      exact k H' k'
/-! ### is_within, mark_of of what is none -/
def spWithinN (K : PySem.W.Frag) : Sp := fun vs H Q E => ∃ y x : V, vs = [y, x] ∧ NotN K H y ∧ outS (aIN K) "value" y H E
theorem ok_withinN {f : Addr} {fd : FuncData} (F : Fun K "is_within" "is_within" sIsWithin f fd) (T : RF K mg) (ox : OfX P w K mg base) : FnOk P w K mg base (L2.CX P w) 6 f fd ["number", "stretch"] (spWithinN K) := by
  obtain ⟨mc, pp, fo, cr, cm, GO⟩ := ox
  refine F.okX scIsWithin (fun vs H Q E h => ?_) (fun cdv A outer s H vs Q E hr h => ?_)
  · obtain ⟨y, x, rfl, _⟩ := h
    rfl
  · obtain ⟨y, x, rfl, no, out⟩ := h
    refine ⟨_, pss_cons (ps_set (i := 2) scIsWithin.nd rfl (Or.inl rfl) (ClX.pe_cmeth (pe_glob (v := .ref (aR K)) rfl T.gR rfl) cr cm GO hr (passE (takes_of rfl rfl rfl rfl)) (pa_cons (pv 0) pa_nil)))
      (pss_cons ps_never (pss_one ps_never)), ?_⟩
    exact ⟨rfl, _, rfl, y, rfl, no, out⟩
def spWithinS (K : PySem.W.Frag) : Sp := fun vs H Q E => ∃ (y x : V) (z : Rat), vs = [y, x] ∧ NumAt K H y z ∧ NotS K H x ∧ outS (aIS K) "value" x H E
theorem ok_withinS {f : Addr} {fd : FuncData} (F : Fun K "is_within" "is_within" sIsWithin f fd) (C : RK P w K mg base) (Z : EM P w K mg base) (is : DefF P w K mg base "is_stretch" 8 ["value"] (spStretchX K)) : FnOk P w K mg base (L2.CX P w) 9 f fd ["number", "stretch"] (spWithinS K) := by
  obtain ⟨fS, fdS, GS, gS, bS, kS⟩ := is
  obtain ⟨mc, pp, fo, cr, cm, GO⟩ := C.J.I.R.of
  obtain ⟨fM, fdM, i1, i2, GM, bM⟩ := Z.mS
  have T := C.J.I.R.G.T
  refine F.okX scIsWithin (fun vs H Q E h => ?_) (fun cdv A outer s H vs Q E hr h => ?_)
  · obtain ⟨y, x, z, rfl, _⟩ := h
    rfl
  · obtain ⟨y, x, z, rfl, hy, no, out⟩ := h
    refine ⟨_, pss_cons (ps_set (i := 2) scIsWithin.nd rfl (Or.inl rfl) (ClX.pe_cmeth (pe_glob (v := .ref (aR K)) rfl T.gR rfl) cr cm GO (hr.mono (by decide)) pass0 (pa_cons (pv 0) pa_nil)))
      (pss_cons (ps_if (pt_not (pt_val (pe_call GS hr rfl gS kS bS .nil pass0 (pa_cons (pv 1) pa_nil)))) (pss_one (ps_raise rfl (takes_of rfl rfl rfl rfl) (pmk_x Z.F.xS i1 i2 GM (hr.mono (by decide)) bM rfl Z.F.gS (pa_cons (pv 1) pa_nil)))) pss_nil)
      (pss_one ps_never)), ?_⟩
    refine ⟨rfl, _, rfl, y, z, rfl, hy, fun p H1 k1 hp => ?_⟩
    refine ⟨_, rfl, x, rfl, no.same k1, fun H2 k2 => ⟨_, rfl, iteT ?_⟩⟩
    exact ⟨_, rfl, rfl, by show 1 ≤ 1000; decide, fun d H3 k3 n3 e3 => (out.same (k1.trans k2)) d H3 k3 n3 e3⟩
def spMarkX (K : PySem.W.Frag) : Sp := fun vs H Q E => ∃ x : V, vs = [x] ∧ NotS K H x ∧ outS (aIS K) "value" x H E
theorem ok_markX {f : Addr} {fd : FuncData} (F : Fun K "mark_of" "mark_of" sMarkOf f fd) (Z : EM P w K mg base) (is : DefF P w K mg base "is_stretch" 8 ["value"] (spStretchX K)) : FnOk P w K mg base (L2.CX P w) 9 f fd ["stretch"] (spMarkX K) := by
  obtain ⟨fS, fdS, GS, gS, bS, kS⟩ := is
  obtain ⟨fM, fdM, i1, i2, GM, bM⟩ := Z.mS
  refine F.okX scMarkOf (fun vs H Q E h => ?_) (fun cdv A outer s H vs Q E hr h => ?_)
  · obtain ⟨x, rfl, _⟩ := h
    rfl
  · obtain ⟨x, rfl, no, out⟩ := h
    refine ⟨_, pss_cons (ps_if (pt_not (pt_val (pe_call GS hr rfl gS kS bS .nil pass0 (pa_cons (pv 0) pa_nil)))) (pss_one (ps_raise rfl (takes_of rfl rfl rfl rfl) (pmk_x Z.F.xS i1 i2 GM (hr.mono (by decide)) bM rfl Z.F.gS (pa_cons (pv 0) pa_nil)))) pss_nil)
      (pss_cons ps_never (pss_cons ps_never (pss_cons ps_never (pss_cons ps_never (pss_one ps_never))))), ?_⟩
    refine ⟨_, rfl, x, rfl, no, fun H2 k2 => ⟨_, rfl, iteT ?_⟩⟩
    exact ⟨_, rfl, rfl, by show 1 ≤ 1000; decide, fun d H3 k3 n3 e3 => (out.same k2) d H3 k3 n3 e3⟩
/-! ### what a Range says of what is none -/
def spInnerX (K : PySem.W.Frag) : Sp := fun vs H Q E => ∃ (s : Addr) (x : V) (q r : Rat), vs = [.ref s, x] ∧ RngAt K H s q r ∧ NotC K H x ∧ outS (aIC K) "value" x H E
theorem ok_innerX {f : Addr} {fd : FuncData} (F : FunD K "is_inner" "Range.is_inner" (defArgs (sRange 4)) (defBody (sRange 4)) (defScope (sRange 4)) [] [] f fd) (L : RL P w K mg base) (ah : DefX P w K mg base "is_ahead" 7 ["one", "other"] (spAheadX K)) : FnOk P w K mg base (L2.CX P w) 8 f fd ["self", "cut"] (spInnerX K) := by
  obtain ⟨fO, fdO, mO, GO, bO⟩ := L.outer
  obtain ⟨fA, fdA, GA, gA, bA, kA⟩ := ah
  have T := L.T
  refine F.ok scInner (fun vs H Q E h => ?_) (fun cdv A outer s H vs Q E hr h => ?_)
  · obtain ⟨s, x, q, r, rfl, _⟩ := h
    rfl
  · obtain ⟨s, x, q, r, rfl, hs, no, out⟩ := h
    refine ⟨_, pss_cons (ps_asg (pe_meth0 (pv 0) T.cl mO GO (hr.mono (by decide)) bO .nil pass0) (pg_tup (by rfl) (pgs_cons (pg_name (i := 2) scInner.nd rfl (.inl rfl)) (pgs_cons (pg_name (i := 3) scInner.nd rfl (.inl rfl)) pgs_nil))))
      (pss_one (ps_ret (pe_and (pe_call GA hr rfl gA kA bA .nil (passE (takes_of rfl rfl rfl rfl)) (pa_cons (pv 2) (pa_cons (pv 1) pa_nil))) (pe_one (pe_call GA hr rfl gA kA bA .nil (passE (takes_of rfl rfl rfl rfl)) (pa_cons (pv 1) (pa_cons (pv 3) pa_nil))))))), ?_⟩
    obtain ⟨le, dx, a, b', es, ha, hb⟩ := id hs
    refine ⟨_, rfl, s, dx, _, rfl, es, rfl, s, q, r, rfl, hs, fun x1 H1 k1 hx1 => ?_⟩
    obtain ⟨t, u, v, rfl, ht, hu, hv⟩ := hx1
    refine ⟨t, _, rfl, SqT.of ht, rfl, _, _, rfl, _, _, rfl, rfl, ?_⟩
    exact ⟨_, rfl, _, rfl, u, x, rfl, .inr ⟨q, false, hu, no.same k1, out.same k1⟩⟩
theorem ok_fitX {f fI : Addr} {fd fdI : FuncData} (F : FunD K "fit" "Range.fit" (defArgs (sRange 5)) (defBody (sRange 5)) (defScope (sRange 5)) [] [] f fd) (L : RL P w K mg base) (mI : Meth K (aG K) "is_inner" fI) (bI : Binds K fdI ["self", "cut"] []) (GI : FnOk P w K mg base (L2.CX P w) 8 fI fdI ["self", "cut"] (spInnerX K)) : FnOk P w K mg base (L2.CX P w) 9 f fd ["self", "cut"] (spInnerX K) := by
  obtain ⟨fO, fdO, mO, GO, bO⟩ := L.outer
  have T := L.T
  refine F.ok scFit (fun vs H Q E h => ?_) (fun cdv A outer s H vs Q E hr h => ?_)
  · obtain ⟨s, x, q, r, rfl, _⟩ := h
    rfl
  · obtain ⟨s, x, q, r, rfl, hs, no, out⟩ := h
    refine ⟨_, pss_cons (ps_asg (pe_meth0 (pv 0) T.cl mO GO (hr.mono (by decide)) bO .nil pass0) (pg_tup (by rfl) (pgs_cons (pg_name (i := 2) scFit.nd rfl (.inl rfl)) (pgs_cons (pg_name (i := 3) scFit.nd rfl (.inl rfl)) pgs_nil))))
      (pss_cons (ps_if (pt_val (pe_meth (pv 0) T.cl mI GI hr bI .nil (passE (takes_of rfl rfl rfl rfl)) (pa_cons (pv 1) pa_nil))) (pss_one ps_never) pss_nil)
      (pss_one ps_never)), ?_⟩
    obtain ⟨le, dx, a, b', es, ha, hb⟩ := id hs
    refine ⟨_, rfl, s, dx, _, rfl, es, rfl, s, q, r, rfl, hs, fun x1 H1 k1 hx1 => ?_⟩
    obtain ⟨t, u, v, rfl, ht, hu, hv⟩ := hx1
    refine ⟨t, _, rfl, SqT.of ht, rfl, _, _, rfl, _, _, rfl, rfl, ?_⟩
    exact ⟨_, rfl, s, dx, _, rfl, k1 _ _ es, rfl, _, rfl, s, x, q, r, rfl, hs.same k1, no.same k1, out.same k1⟩
def spHasX (K : PySem.W.Frag) : Sp := fun vs H Q _ => ∃ (s : Addr) (x : V), vs = [.ref s, x] ∧ NotS K H x ∧ ∀ H', Same H H' → Q (.bl false) H'
theorem ok_hasX {f : Addr} {fd : FuncData} (F : FunD K "has_stretch" "Range.has_stretch" (defArgs (sRange 6)) (defBody (sRange 6)) (defScope (sRange 6)) [] [] f fd) (is : DefF P w K mg base "is_stretch" 8 ["value"] (spStretchX K)) : FnOk P w K mg base CX0 9 f fd ["self", "value"] (spHasX K) := by
  obtain ⟨fS, fdS, GS, gS, bS, kS⟩ := is
  refine F.ok scHas (fun vs H Q E h => ?_) (fun cdv A outer s H vs Q E hr h => ?_)
  · obtain ⟨s, x, rfl, _⟩ := h
    rfl
  · obtain ⟨s, x, rfl, no, k⟩ := h
    refine ⟨_, pss_cons (ps_if (pt_not (pt_val (pe_call GS hr rfl gS kS bS .nil pass0 (pa_cons (pv 1) pa_nil)))) (pss_one (ps_ret pe_bl)) pss_nil)
      (pss_cons ps_never (pss_one ps_never)), ?_⟩
    exact ⟨_, rfl, x, rfl, no, fun H2 k2 => ⟨_, rfl, iteT (k H2 k2)⟩⟩
def spHoldsX (K : PySem.W.Frag) : Sp := fun vs H Q _ => ∃ (s : Addr) (x : V), vs = [.ref s, x] ∧ NotN K H x ∧ Q (.bl false) H
theorem ok_holdsX {f : Addr} {fd : FuncData} (F : FunD K "__contains__" "Range.__contains__" (defArgs (sRange 7)) (defBody (sRange 7)) (defScope (sRange 7)) [] [] f fd) (L : RL P w K mg base) (nx : DefF P w K mg base "is_number" 2 ["value"] (spNumX K)) : FnOk P w K mg base CX0 6 f fd ["self", "value"] (spHoldsX K) := by
  obtain ⟨mc, pp, fo, cr, cm, GO⟩ := L.C.J.I.R.of
  obtain ⟨fB, fdB, mB, GB, bB⟩ := L.C.J.I.below
  obtain ⟨fN, fdN, GN, gN, bN, kN⟩ := nx
  have TR := L.C.J.I.R.G.T
  refine F.ok scHolds (fun vs H Q E h => ?_) (fun cdv A outer s H vs Q E hr h => ?_)
  · obtain ⟨s, x, rfl, _⟩ := h
    rfl
  · obtain ⟨s, x, rfl, no, k⟩ := h
    refine ⟨_, pss_one (ps_ret (pe_and (pe_call GN (hr.mono (by decide)) rfl gN kN bN .nil pass0 (pa_cons (pv 1) pa_nil))
      (pe_and (pe_not (pe_meth (pe_fld (pv 0) rfl) TR.cl mB GB hr bB .nil pass0 (pa_cons (pv 1) pa_nil)))
      (pe_one (pe_not (pe_meth (ClX.pe_cmeth (pe_glob (v := .ref (aR K)) rfl TR.gR rfl) cr cm GO (hr.mono (by decide)) pass0 (pa_cons (pv 1) pa_nil)) TR.cl mB GB hr bB .nil pass0 (pa_cons (pe_fld (pv 0) rfl) pa_nil))))))), ?_⟩
    exact ⟨_, rfl, x, rfl, no, false, rfl, iteF k⟩
end
end K18
set_option maxHeartbeats 1000000
/-! {x!r} of an own instance. -/
namespace GL
open PySem PySem.Spec PyProof.Rows L2 L2H
theorem krp_obj {prog : Program} {w : World} {A : Around} {E : Value → Shared → Prop} {s : Shared} {K : PySem.W.Frag} {x C f : Addr} {ox : Obj} {od : Option Obj} {Q : Value → Shared → Prop} (hu : A.units < cLine) (X : K.In s.heap) (I : PySem.W.InstAt s.heap x ox C od) (hr : PySem.W.findIn K (.ref C) "__repr__" = some (some (.ref f))) (hf : PySem.W.isFn K (.ref f) = true)
    (h : wpAny (model prog w) A (call (.ref f) [.ref x]) (PySem.W.KfoBack Q) E s) : wpAny (model prog w) A (pyReprObj (.ref x)) Q E s := by
  unfold pyReprObj
  refine wpAny_bind (wpAny_cRoomFor hu ?_)
  refine wpAny_bind (m := specialOf (.ref x) _) (wpAny_bind (I.type.here ((PySem.W.looks_findIn X hr).here ?_)))
  show wpAny _ _ (if (some (Value.ref f)).isNone = true then _ else _) _ _ _
  rw [if_neg (by simp)]
  refine wpAny_bind (m := callSpecialIfBound? (.ref x) (Str.ofString "__repr__") _) (PySem.W.ifBound_K X I hr hf (wpAny_mono h (fun r s' hq => ?_) fun _ _ y => y))
  obtain ⟨m, tk, rfl, hq⟩ := hq
  refine wpAny_bind (wpAny_isInstance (typeIs_str _ _ _) isSubtype_str_str ?_)
  first
    | exact wpAny_pure hq
    | (rw [if_pos rfl]; exact wpAny_pure hq)
    | (simp only [if_true]; exact wpAny_pure hq)
def tFmtRO (C : Addr) (sp : Sp) (te : TE) : TE := fun σ H Q => te σ H fun x H1 => ∃ a dx fs, x = .ref a ∧ H1 a = some (.ins C dx fs) ∧ sp [.ref a] H1 (fun v H2 => ∃ z, v = .str z ∧ z.length ≤ sizeLine ∧ Q (.str z) H2) E0
theorem pe_fmtRO {X : Cx} {k : Nat} {fd : FuncData} {sp : Sp} {C f : Addr} {e : Expr} {te : TE} {pos : Pos} (B : Meth X.K C "__repr__" f) (F : FnC X.prog X.w X.K X.mg X.base k f fd ["self"] sp) (hb : Binds X.K fd ["self"] []) (hr : RoomH k X.A) (he : PE X e te) : PE X (.FormattedValue e 114 none pos) (tFmtRO C sp te) := by
  refine ⟨fun pins s σ H Q I h => ?_⟩
  refine wpAny_FormattedValue_repr (thn (he.run pins s σ H _ I h) fun v s1 hv => ?_)
  obtain ⟨x, H1, I1, r1, a, dx, fs, rfl, ea, q⟩ := hv
  cases (show v = Value.ref a from r1)
  obtain ⟨ox, od, J⟩ := inst_of I1 ea
  have e0 : Env0 X.prog X.w X.K X.mg X.base X.A X.stack s1 H1 := I1.env0
  have b := hb s1 [.ref a] I1.kIn rfl
  rw [List.append_nil] at b
  have run := F.run X.A X.stack s1 H1 ⟨[.ref a], []⟩ [.ref a] [.ref a] _ hr e0 b (Paired.cons (a := V.ref a) (b := Value.ref a) rfl .nil) q
  have hu : X.A.units < cLine := by
    have := hr.un
    omega
  refine krp_obj hu I1.kIn J B.at_ B.fn (wpAny_call (codeAny_mono run fun r' s' z => ?_))
  match r', z with
  | .error er, z => exact False.elim z
  | .ok .next, z => exact False.elim z
  | .ok .brk, z => exact False.elim z
  | .ok .cont, z => exact False.elim z
  | .ok (.ret w), z =>
    obtain ⟨v, H', I', rv, y, rfl, hz, q'⟩ := I1.after z
    obtain ⟨t, rfl⟩ := (show ∃ t, w = Value.str y t from rv)
    exact ⟨y, t, rfl, wpAny_formatField_str ⟨.str y, H', I', ⟨t, rfl⟩, q'⟩ ⟨.str y, H', I'.tok _, ⟨_, rfl⟩, q'⟩ hz⟩
end GL
set_option maxHeartbeats 4000000
namespace K18
open PySem PySem.Spec PyProof.Rows L2 GL
section
variable {P : Program} {w : World} {K : PySem.W.Frag} {mg : Str → Option Value} {base : Heap}
/-! ### Range of what is wrong -/
def spGInitL (K : PySem.W.Frag) : Sp := fun vs H _ E => ∃ (s : Addr) (x y : V), vs = [.ref s, x, y] ∧ NotN K H x ∧ outS (aIN K) "value" x H E
theorem ok_gInitL {f : Addr} {fd : FuncData} (F : FunD K "__init__" "Range.__init__" (defArgs (sRange 0)) (defBody (sRange 0)) (defScope (sRange 0)) [] [] f fd) (T : RF K mg) (ox : OfX P w K mg base) : FnOk P w K mg base (L2.CX P w) 6 f fd ["self", "low", "high"] (spGInitL K) := by
  obtain ⟨mc, pp, fo, cr, cm, GO⟩ := ox
  refine F.ok scGInit (fun vs H Q E h => ?_) (fun cdv A outer s H vs Q E hr h => ?_)
  · obtain ⟨s, x, y, rfl, _⟩ := h
    rfl
  · obtain ⟨s, x, y, rfl, no, out⟩ := h
    refine ⟨_, pss_cons (ps_fld (pv 0) (ClX.pe_cmeth (pe_glob (v := .ref (aR K)) rfl T.gR rfl) cr cm GO hr (passE (takes_of rfl rfl rfl rfl)) (pa_cons (pv 1) pa_nil)) rfl)
      (pss_cons ps_never (pss_one ps_never)), ?_⟩
    exact ⟨rfl, _, rfl, x, rfl, no, out⟩
def spGInitH (K : PySem.W.Frag) : Sp := fun vs H _ E => ∃ (s dx : Addr) (x y : V) (q : Rat), vs = [.ref s, x, y] ∧ H s = some (.ins (aG K) dx []) ∧ NumAt K H x q ∧ (∀ H', Kp s H H' → NotN K H' y) ∧ outK (aIN K) "value" y s H E
theorem ok_gInitH {f : Addr} {fd : FuncData} (F : FunD K "__init__" "Range.__init__" (defArgs (sRange 0)) (defBody (sRange 0)) (defScope (sRange 0)) [] [] f fd) (L : RL P w K mg base) (ox : OfX P w K mg base) : FnOk P w K mg base (L2.CX P w) 6 f fd ["self", "low", "high"] (spGInitH K) := by
  obtain ⟨mc, pp, fo, cr, cm, GO⟩ := L.C.J.I.R.of
  obtain ⟨mc2, pp2, fo2, cr2, cm2, GO2⟩ := ox
  have TR := L.C.J.I.R.G.T
  have T := L.T
  refine F.ok scGInit (fun vs H Q E h => ?_) (fun cdv A outer s H vs Q E hr h => ?_)
  · obtain ⟨s, dx, x, y, q, rfl, _⟩ := h
    rfl
  · obtain ⟨s, dx, x, y, q, rfl, es, hx, no, out⟩ := h
    refine ⟨_, pss_cons (ps_fld (pv 0) (ClX.pe_cmeth (pe_glob (v := .ref (aR K)) rfl TR.gR rfl) cr cm GO (hr.mono (by decide)) pass0 (pa_cons (pv 1) pa_nil)) rfl)
      (pss_cons (ps_fld (pv 0) (ClX.pe_cmeth (pe_glob (v := .ref (aR K)) rfl TR.gR rfl) cr2 cm2 GO2 hr (passE (takes_of rfl rfl rfl rfl)) (pa_cons (pv 2) pa_nil)) rfl)
      (pss_one ps_never)), ?_⟩
    refine ⟨rfl, _, rfl, x, q, rfl, hx, fun a H1 k1 ha => ?_⟩
    have es1 := k1 _ _ es
    refine ⟨_, rfl, s, _, dx, _, rfl, es1, T.cl, T.nL, (by decide), ?_⟩
    have kp : Kp s H (upd H1 s (.ins (aG K) dx [("_low", .ref a)])) := Kp.put fun c o _ e => k1 _ _ e
    refine ⟨rfl, _, rfl, y, rfl, no _ kp, fun d H2 k2 n2 e2 => out d H2 (kp.same k2) ?_ e2⟩
    cases eh : H d with
    | none => rfl
    | some o =>
      exfalso
      by_cases hd : d = s
      · rw [hd] at n2
        exact absurd ((show (upd H1 s (.ins (aG K) dx [("_low", .ref a)])) s = none from n2).symm.trans upd_same) (by simp)
      · exact absurd ((show (upd H1 s (.ins (aG K) dx [("_low", .ref a)])) d = none from n2).symm.trans (kp d o hd eh)) (by simp)
def outT (K : PySem.W.Frag) (s : Addr) (x y : V) (H : Hp) (E : XK) : Prop := ∀ t d H2, Kp s H H2 → H2 t = some (.tup [x, y]) → H d = none → H2 d = some (.xd [("value", .ref t)]) → E (.ref (aIR K)) (some d) H2
def spGInitT (K : PySem.W.Frag) : Sp := fun vs H _ E => ∃ (s dx : Addr) (x y : V) (q r : Rat), vs = [.ref s, x, y] ∧ H s = some (.ins (aG K) dx []) ∧ NumAt K H x q ∧ NumAt K H y r ∧ Sz 100000 q ∧ Sz 100000 r ∧ rBelow r q = true ∧ outT K s x y H E
theorem ok_gInitT {f : Addr} {fd : FuncData} (F : FunD K "__init__" "Range.__init__" (defArgs (sRange 0)) (defBody (sRange 0)) (defScope (sRange 0)) [] [] f fd) (L : RL P w K mg base) (Z : EM P w K mg base) : FnOk P w K mg base (L2.CX P w) 6 f fd ["self", "low", "high"] (spGInitT K) := by
  obtain ⟨mc, pp, fo, cr, cm, GO⟩ := L.C.J.I.R.of
  obtain ⟨fB, fdB, mB, GB, bB⟩ := L.C.J.I.below
  obtain ⟨fM, fdM, i1, i2, GM, bM⟩ := Z.mR
  have TR := L.C.J.I.R.G.T
  have T := L.T
  refine F.ok scGInit (fun vs H Q E h => ?_) (fun cdv A outer s H vs Q E hr h => ?_)
  · obtain ⟨s, dx, x, y, q, r, rfl, _⟩ := h
    rfl
  · obtain ⟨s, dx, x, y, q, r, rfl, es, hx, hy, sq, sr, le, out⟩ := h
    refine ⟨_, pss_cons (ps_fld (pv 0) (ClX.pe_cmeth (pe_glob (v := .ref (aR K)) rfl TR.gR rfl) cr cm GO (hr.mono (by decide)) pass0 (pa_cons (pv 1) pa_nil)) rfl)
      (pss_cons (ps_fld (pv 0) (ClX.pe_cmeth (pe_glob (v := .ref (aR K)) rfl TR.gR rfl) cr cm GO (hr.mono (by decide)) pass0 (pa_cons (pv 2) pa_nil)) rfl)
      (pss_one (ps_if (pt_val (pe_meth (pe_fld (pv 0) rfl) TR.cl mB GB hr bB .nil pass0 (pa_cons (pe_fld (pv 0) rfl) pa_nil)))
        (pss_one (ps_raise rfl (takes_of rfl rfl rfl rfl) (pmk_x Z.F.xR i1 i2 GM (hr.mono (by decide)) bM rfl Z.F.gR (pa_cons (pe_tup (pa_cons (pv 1) (pa_cons (pv 2) pa_nil))) pa_nil)))) pss_nil))), ?_⟩
    refine ⟨rfl, _, rfl, x, q, rfl, hx, fun a H1 k1 ha => ?_⟩
    have es1 := k1 _ _ es
    refine ⟨_, rfl, s, _, dx, _, rfl, es1, T.cl, T.nL, (by decide), ?_⟩
    have kp1 : Kp s H (upd H1 s (.ins (aG K) dx [("_low", .ref a)])) := Kp.put fun c o _ e => k1 _ _ e
    have na := notRat es1 rfl ha
    have ha1 : RatAt K (upd H1 s (.ins (aG K) dx [("_low", .ref a)])) a q := ha.kp na (Kp.put fun c o _ e => e)
    refine ⟨rfl, _, rfl, y, r, rfl, hy.kp es rfl kp1, fun b H2 k2 hb => ?_⟩
    have es2 := k2 _ _ upd_same
    refine ⟨_, rfl, s, _, dx, _, rfl, es2, T.cl, T.nH, (by show 1 < 1000; decide), ?_⟩
    have kp2 : Kp s H2 (upd H2 s (.ins (aG K) dx (putF "_high" (V.ref b) (putF "_low" (V.ref a) [])))) := Kp.put fun c o _ e => e
    have kp : Kp s H (upd H2 s (.ins (aG K) dx (putF "_high" (V.ref b) (putF "_low" (V.ref a) [])))) := (kp1.same k2).put
    have nb := notRat es2 rfl hb
    have ha2 := (ha1.same k2).kp na kp2
    have hb2 := hb.kp nb kp2
    have es3 : (upd H2 s (.ins (aG K) dx (putF "_high" (V.ref b) (putF "_low" (V.ref a) [])))) s = some (.ins (aG K) dx [("_low", .ref a), ("_high", .ref b)]) := upd_same
    generalize upd H2 s (.ins (aG K) dx (putF "_high" (V.ref b) (putF "_low" (V.ref a) []))) = H3 at *
    obtain ⟨da, ea⟩ := id ha2
    obtain ⟨db, eb⟩ := id hb2
    refine ⟨_, rfl, s, _, dx, _, _, rfl, es3, T.cl, T.nH, rfl, b, db, _, rfl, eb, rfl, _, rfl, s, _, dx, _, _, rfl, es3, T.cl, T.nL, rfl, b, .ref a, r, q, rfl, ⟨db, eb⟩, .inr ⟨a, rfl, da, ea⟩, sr, sq, fun H4 k4 => ⟨_, rfl, ?_⟩⟩
    rw [le]
    refine iteT ⟨_, rfl, _, rfl, (by show 2 ≤ sizeLine; decide), fun t nt => ?_⟩
    have ut := same_new (o := .tup [x, y]) nt
    have et : (upd H4 t (.tup [x, y])) t = some (.tup [x, y]) := upd_same
    generalize upd H4 t (.tup [x, y]) = H5 at *
    refine ⟨rfl, by show 1 ≤ 1000; decide, fun d H6 k6 n6 e6 => ?_⟩
    have k36 := k4.trans ut
    refine out t d H6 (kp.same (k36.trans k6)) (k6 _ _ et) ?_ e6
    have n3 := none_of k36 n6
    cases eh : H d with
    | none => rfl
    | some o =>
      exfalso
      by_cases hd : d = s
      · rw [hd, es3] at n3
        cases n3
      · rw [kp d o hd eh] at n3
        cases n3
/-! ### fit, as a cut with a Ratio -/
def spFitR (K : PySem.W.Frag) : Sp := fun vs H Q _ => ∃ (s : Addr) (x : V) (q r z : Rat) (b : Bool), vs = [.ref s, x] ∧ RngAt K H s q r ∧ CutAt K H x z b ∧ Sz 100000 q ∧ Sz 100000 r ∧ Sz 100000 z ∧ ∀ c H', Same H H' → CutR K H' c (cFitQ q r z b) (cFitB q r z b) → Q (.ref c) H'
theorem ok_fitR {f fI : Addr} {fd fdI : FuncData} (F : FunD K "fit" "Range.fit" (defArgs (sRange 5)) (defBody (sRange 5)) (defScope (sRange 5)) [] [] f fd) (L : RL P w K mg base) (ou : MetX P w K mg base (aG K) "outer" 1 ["self"] (spOuterR K)) (mI : Meth K (aG K) "is_inner" fI) (bI : Binds K fdI ["self", "cut"] []) (GI : FnOk P w K mg base CX0 8 fI fdI ["self", "cut"] (spInner K)) : FnOk P w K mg base CX0 9 f fd ["self", "cut"] (spFitR K) := by
  obtain ⟨fO, fdO, mO, GO, bO⟩ := ou
  obtain ⟨fA, fdA, GA, gA, bA, kA⟩ := L.C.ahead
  obtain ⟨fC, fdC, GC, gC, bC, kC⟩ := L.C.J.rc
  have T := L.T
  refine F.ok scFit (fun vs H Q E h => ?_) (fun cdv A outer s H vs Q E hr h => ?_)
  · obtain ⟨s, x, q, r, z, b, rfl, _⟩ := h
    rfl
  · obtain ⟨s, x, q, r, z, b, rfl, hs, hx, sq, sr, sz, k⟩ := h
    refine ⟨_, pss_cons (ps_asg (pe_meth0 (pv 0) T.cl mO GO (hr.mono (by decide)) bO .nil pass0) (pg_tup (by rfl) (pgs_cons (pg_name (i := 2) scFit.nd rfl (.inl rfl)) (pgs_cons (pg_name (i := 3) scFit.nd rfl (.inl rfl)) pgs_nil))))
      (pss_cons (ps_if (pt_val (pe_meth (pv 0) T.cl mI GI hr bI .nil pass0 (pa_cons (pv 1) pa_nil))) (pss_one (ps_ret (pe_call GC (hr.mono (by decide)) rfl gC kC bC .nil pass0 (pa_cons (pv 1) pa_nil)))) pss_nil)
      (pss_one (ps_ret (pe_ifExp (pt_val (pe_call GA (hr.mono (by decide)) rfl gA kA bA .nil pass0 (pa_cons (pv 2) (pa_cons (pv 1) pa_nil)))) (pv 3) (pv 2))))), ?_⟩
    obtain ⟨le, dx, a, b', es, ha, hb⟩ := id hs
    refine ⟨_, rfl, s, dx, _, rfl, es, rfl, s, q, r, rfl, hs, fun t u v H1 k1 ht hu hv => ?_⟩
    refine ⟨t, _, rfl, SqT.of ht, rfl, _, _, rfl, _, _, rfl, rfl, ?_⟩
    refine ⟨_, rfl, s, dx, _, rfl, k1 _ _ es, rfl, _, rfl, s, x, q, r, z, b, rfl, hs.same k1, hx.same k1, sq, sr, sz, fun H2 k2 => ⟨_, rfl, ?_⟩⟩
    unfold cFitQ cFitB at k
    cases hI : cInner q r z b with
    | true =>
      rw [hI] at k
      refine iteT ⟨_, rfl, x, z, b, rfl, (hx.same k1).same k2, fun c p H3 k3 hc hp => ?_⟩
      exact k _ H3 ((k1.trans k2).trans k3) ⟨p, hc, hp⟩
    | false =>
      rw [hI] at k
      refine iteF ⟨_, rfl, _, rfl, .ref u, x, q, z, false, b, rfl, hu.cut.same k2, (hx.same k1).same k2, sq, sz, fun H3 k3 => ⟨_, rfl, ?_⟩⟩
      cases hA : cAhead q false z b with
      | true =>
        rw [hA] at k
        exact iteT ⟨_, rfl, k _ H3 ((k1.trans k2).trans k3) ((hv.same k2).same k3)⟩
      | false =>
        rw [hA] at k
        exact iteF ⟨_, rfl, k _ H3 ((k1.trans k2).trans k3) ((hu.same k2).same k3)⟩
theorem roomH {k : Nat} {A : Around} (r : Room k A) : L2H.RoomH k A := ⟨r.dp, r.un⟩
/-! ### repr of a Range -/
def reprG2 (q r : Rat) : Str := ((((Str.empty ++ "Range(") ++ reprQ q) ++ ", ") ++ reprQ r) ++ ")"
def spGRepr (K : PySem.W.Frag) : Sp := fun vs H Q _ => ∃ (s : Addr) (q r : Rat), vs = [.ref s] ∧ RngAt K H s q r ∧ Sz 900 q ∧ Sz 900 r ∧ Q (.str (reprG2 q r)) H
theorem scGRepr : FnScope ["self"] ["self"] (defScope (sRange 9)) := ⟨rfl, rfl, rfl, by decide +kernel, rfl, by decide +kernel, by decide +kernel⟩
theorem ok_gRepr {f : Addr} {fd : FuncData} (F : FunD K "__repr__" "Range.__repr__" (defArgs (sRange 9)) (defBody (sRange 9)) (defScope (sRange 9)) [] [] f fd) (T : GF K mg) (R : RepF P w K mg base) : FnOk P w K mg base CX0 3 f fd ["self"] (spGRepr K) := by
  obtain ⟨fR, fdR, BR, FR, bR⟩ := R
  refine F.ok scGRepr (fun vs H Q E h => ?_) (fun cdv A outer s H vs Q E hr h => ?_)
  · obtain ⟨s, q, r, rfl, _⟩ := h
    rfl
  · obtain ⟨s, q, r, rfl, ⟨le, dx, a, b, es, ha, hb⟩, sq, sr, k⟩ := h
    refine ⟨_, pss_one (ps_ret (pe_joined (.cons pe_str (.cons (pe_fmtRO BR FR bR (roomH (hr.mono (by decide))) (pe_fld (pv 0) rfl)) (.cons pe_str (.cons (pe_fmtRO BR FR bR (roomH (hr.mono (by decide))) (pe_fld (pv 0) rfl)) (.cons pe_str .nil))))))), ?_⟩
    have n1 := reprQ_len sq
    have n2 := reprQ_len sr
    have m0 : (Str.ofString "Range(").length = 6 := by decide +kernel
    have m1 : (Str.ofString ", ").length = 2 := by decide +kernel
    have m2 : (Str.ofString ")").length = 1 := by decide +kernel
    have e0 : Str.empty.length = 0 := rfl
    have line := sizeLine_eq
    obtain ⟨da, ea⟩ := id ha
    obtain ⟨db, eb⟩ := id hb
    refine ⟨_, rfl, by rw [strLen_append]; omega, ?_⟩
    refine ⟨_, rfl, s, _, dx, _, _, rfl, es, T.cl, T.nL, rfl, a, da, _, rfl, ea, a, q, rfl, ha, sq, _, rfl, by omega, ?_⟩
    refine ⟨_, rfl, by rw [strLen_append, strLen_append]; omega, ?_⟩
    refine ⟨_, rfl, by rw [strLen_append, strLen_append, strLen_append]; omega, ?_⟩
    refine ⟨_, rfl, s, _, dx, _, _, rfl, es, T.cl, T.nH, rfl, b, db, _, rfl, eb, b, r, rfl, hb, sr, _, rfl, by omega, ?_⟩
    refine ⟨_, rfl, by rw [strLen_append, strLen_append, strLen_append, strLen_append]; omega, ?_⟩
    refine ⟨_, rfl, by rw [strLen_append, strLen_append, strLen_append, strLen_append, strLen_append]; omega, ?_⟩
    exact k
end
end K18
set_option maxHeartbeats 4000000
namespace K18
open PySem PySem.Spec PyProof.Rows L2 GL
abbrev sMarkL : Stmt := tp 41
abbrev sPair : Stmt := tp 42
/-! ### texts are made of signs -/
theorem strOk_of (s : String) : PyData.strOk (Str.ofString s) = true := by
  rw [Str.ofString_eq_toList]
  unfold PyData.strOk
  simp only [List.all_toArray, List.all_map, List.all_eq_true, Function.comp_apply, decide_eq_true_eq]
  intro c _
  have h := c.valid
  show c.val.toNat < 0x110000
  rcases h with h | ⟨_, h⟩
  · exact Nat.lt_trans h (by decide)
  · exact h
theorem strOk_app {a b : Str} (h : PyData.strOk a = true) (k : PyData.strOk b = true) : PyData.strOk (a ++ b) = true := by
  show PyData.strOk (Str.append a b) = true
  unfold PyData.strOk Str.append at *
  simp only [Array.all_append, Bool.and_eq_true]
  exact ⟨h, k⟩
theorem strOk_two {a b : Str} (h : PyData.strOk a = true) (k : PyData.strOk b = true) : PyData.strOk (tupleText [a, b]) = true := by
  have e : tupleText [a, b] = (("(" : Str) ++ (a ++ (", " : Str) ++ b)) ++ Str.ofString ")" := rfl
  rw [e]
  exact strOk_app (strOk_app (strOk_of _) (strOk_app (strOk_app h (strOk_of _)) k)) (strOk_of _)
theorem reprQ_ok (q : Rat) : PyData.strOk (reprQ q) = true := by
  have e : PyData.strOk Str.empty = true := by decide +kernel
  exact strOk_app (strOk_app (strOk_app (strOk_app (strOk_app e (strOk_of _)) (strOk_of _)) (strOk_of _)) (strOk_of _)) (strOk_of _)
theorem NumR.ok {K : PySem.W.Frag} {H : Hp} {v : V} {z : Str} (h : NumR K H v z) : PyData.strOk z = true := by
  rcases h with ⟨i, _, l, rfl⟩ | ⟨a, q, _, _, sz, rfl⟩
  · exact strOk_of _
  · exact reprQ_ok q
theorem CutZ.ok {K : PySem.W.Frag} {H : Hp} {v : V} {z : Str} (h : CutZ K H v z) : PyData.strOk z = true := by
  obtain ⟨c, u, b, y, _, _, hu, rfl⟩ := h
  exact strOk_two hu.ok (by cases b <;> exact strOk_of _)
theorem numR_of {K : PySem.W.Frag} {H : Hp} {v : V} {q : Rat} (h : NumAt K H v q) (sz : Sz 900 q) : ∃ z, NumR K H v z := by
  rcases h with ⟨i, e, rfl⟩ | ⟨a, e, ha⟩
  · exact ⟨_, .inl ⟨i, e, Nat.lt_trans (log2_lt sz.1 (by decide)) (by decide), rfl⟩⟩
  · exact ⟨_, .inr ⟨a, q, e, ha, sz, rfl⟩⟩
theorem cutZ_of {K : PySem.W.Frag} {H : Hp} {v : V} {q : Rat} {b : Bool} (h : CutAt K H v q b) (sz : Sz 900 q) : ∃ z, CutZ K H v z := by
  obtain ⟨c, u, e, hc, hu⟩ := h
  obtain ⟨y, hy⟩ := numR_of hu sz
  exact ⟨_, c, u, b, y, e, hc, hy, rfl⟩
/-! ### what stands behind tables -/
theorem RatAt.noT {K : PySem.W.Frag} {H : Hp} {a : Addr} {q : Rat} (h : RatAt K H a q) : RatAt K (GL.noT H) a q := by
  obtain ⟨d, e⟩ := h
  exact ⟨d, noT_at e fun _ z => nomatch z⟩
theorem RngAt.noT {K : PySem.W.Frag} {H : Hp} {g : Addr} {q r : Rat} (h : RngAt K H g q r) : RngAt K (GL.noT H) g q r := by
  obtain ⟨l, d, a, b, e, ha, hb⟩ := h
  exact ⟨l, d, a, b, noT_at e (fun _ z => nomatch z), ha.noT, hb.noT⟩
theorem NumAt.noT {K : PySem.W.Frag} {H : Hp} {v : V} {q : Rat} (h : NumAt K H v q) : NumAt K (GL.noT H) v q := by
  rcases h with h | ⟨a, e, h⟩
  · exact .inl h
  · exact .inr ⟨a, e, h.noT⟩
theorem CutAt.noT {K : PySem.W.Frag} {H : Hp} {v : V} {q : Rat} {b : Bool} (h : CutAt K H v q b) : CutAt K (GL.noT H) v q b := by
  obtain ⟨c, u, e, hc, hu⟩ := h
  exact ⟨c, u, e, noT_at hc (fun _ z => by cases z), hu.noT⟩
theorem CutAt.ext {K : PySem.W.Frag} {H H' : Hp} {v : V} {q : Rat} {b : Bool} (h : CutAt K H v q b) (k : LamX.ExtN H H') : CutAt K H' v q b := h.noT.same (extN_same k)
theorem RngAt.ext {K : PySem.W.Frag} {H H' : Hp} {g : Addr} {q r : Rat} (h : RngAt K H g q r) (k : LamX.ExtN H H') : RngAt K H' g q r := h.noT.same (extN_same k)
theorem RatAt.ext {K : PySem.W.Frag} {H H' : Hp} {g : Addr} {q : Rat} (h : RatAt K H g q) (k : LamX.ExtN H H') : RatAt K H' g q := h.noT.same (extN_same k)
theorem PartAt.ext {H H' : Hp} {a : Addr} {q : Rat} (h : PartAt H a q) (k : LamX.ExtN H H') : PartAt H' a q := k _ _ h fun _ z => by cases z
theorem MarkAt.ext {H H' : Hp} {a : Addr} {q : Rat} {b : Bool} (h : MarkAt H a q b) (k : LamX.ExtN H H') : MarkAt H' a q b := by
  obtain ⟨c, e, hc⟩ := h
  exact ⟨c, k _ _ e (fun _ z => by cases z), hc.ext k⟩
theorem Rng.ext {H H' : Hp} {p : Addr} (h : Rng H p) (k : LamX.ExtN H H') : Rng H' p := by
  obtain ⟨x, y, e, r⟩ := h
  exact ⟨x, y, k _ _ e (fun _ z => by cases z), r⟩
/-- fractions of the law's own -/
def PartsL (H : Hp) (xs : List V) : Prop := ∀ v ∈ xs, ∃ t q, v = .ref t ∧ PartAt H t q ∧ Sz 200 q
theorem PartsL.same {H H' : Hp} {xs : List V} (h : PartsL H xs) (k : Same H H') : PartsL H' xs := fun v hv => by
  obtain ⟨t, q, e, m, s⟩ := h v hv
  exact ⟨t, q, e, m.same k, s⟩
theorem PartsL.offR {H : Hp} {p : Addr} {xs : List V} (h : PartsL H xs) (R : Rng H p) : PartsL (GL.off H p) xs := fun v hv => by
  obtain ⟨t, q, e, m, s⟩ := h v hv
  exact ⟨t, q, e, m.offR R, s⟩
theorem PartsL.ext {H H' : Hp} {xs : List V} (h : PartsL H xs) (k : LamX.ExtN H H') : PartsL H' xs := fun v hv => by
  obtain ⟨t, q, e, m, s⟩ := h v hv
  exact ⟨t, q, e, m.ext k, s⟩
def kdD (x y : Str) : PyData := .list [.str x, .str y]
theorem kdDp {K : PySem.W.Frag} {H : Hp} {r : Addr} {x y : Str} (e : H r = some (.lst [.str x, .str y])) : Dp K H (.ref r) (kdD x y) := .lst (SqL.of e) (.cons (.str _) (.cons (.str _) .nil))
theorem eqv_kd (x y : Str) : PyData.eqv (kdD x y) (kdD x y) = true := by simp [kdD, PyData.eqv, PyData.eqvAll]
theorem shp_kd {x y : Str} (a : PyData.strOk x = true) (b : PyData.strOk y = true) : SeqAt.shaped (kdD x y) = true := by simp [kdD, SeqAt.shaped, PyData.canLay0, PyData.canLayAll0, PyData.depth, PyData.depthAll, a, b]
abbrev lamP : Str := "_law_pair_right.<locals>.<lambda>"
abbrev lamR : Str := "_law_refused_right.<locals>.<lambda>"
abbrev tbs (x y : Addr) : List (Addr × Str) := [(x, lamP), (y, lamR)]
theorem half_eq (x : Rat) : Rat.divInt x.num ((x.den : Int) * 2) = rOver x 2 := by
  show _ = Rat.divInt (x.num * 1) ((x.den : Int) * 2)
  rw [Int.mul_one]
theorem cMark_sz {q r : Rat} {b c : Bool} (h : Sz 200 q) (k : Sz 200 r) : Sz 420 (cMark q b r c) := by
  unfold cMark
  split
  · exact h.mono (by decide)
  · split
    · exact k.mono (by decide)
    · have z := rAdd_sz h k
      rw [← half_eq]
      refine divInt_sz (Int.mul_ne_zero (den_ne _) (by decide)) (Nat.lt_of_lt_of_le z.1 (Nat.pow_le_pow_right (by decide) (by decide))) ?_
      have d := z.den
      have e : ((((rAdd q r).den : Int) * 2).natAbs) = (rAdd q r).den * 2 := by rw [Int.natAbs_mul, Int.natAbs_natCast]; rfl
      rw [e]
      have f : (2 : Nat) ^ 420 = 2 ^ (200 + 200 + 1) * 2 ^ 19 := by rw [← Nat.pow_add]
      have g : (2 : Nat) ≤ 2 ^ 19 := by decide
      rw [f]
      exact Nat.lt_of_lt_of_le (Nat.mul_lt_mul_of_pos_right d (by decide)) (Nat.mul_le_mul_left _ g)
theorem mark_within {q r : Rat} {b c : Bool} (h : cAhead q b r c = true) : (cAbove (cMark q b r c) q b && !cAbove (cMark q b r c) r c) = true := by
  have self : ∀ x : Rat, rBelow x x = false := fun x => rBelow_not.mpr Rat.le_refl
  unfold cAhead at h
  cases b with
  | false =>
    cases c with
    | false =>
      have h' : rBelow q r = true := h
      simp [cMark, cAbove, self, h']
    | true =>
      have h' : rBelow r q = false := by simpa using h
      simp [cMark, cAbove, self, h']
  | true =>
    have h' : rBelow q r = true := by cases c <;> exact h
    cases c with
    | true => simp [cMark, cAbove, self, h']
    | false =>
      have e : cMark q true r false = (q + r) / 2 := by
        show rOver (rAdd q r) 2 = _
        rw [rOver_eq, rAdd_eq]
      rw [e]
      have lt := rBelow_iff.mp h'
      have a : rBelow q ((q + r) / 2) = true := rBelow_iff.mpr (by grind)
      have d : rBelow ((q + r) / 2) r = true := rBelow_iff.mpr (by grind)
      simp [cAbove, a, d]
section
variable {P : Program} {w : World} {K : PySem.W.Frag} {mg : Str → Option Value} {base : Heap}
/-! ### the mark of a stretch, by the law -/
def spMarkL (K : PySem.W.Frag) : Sp := fun vs H Q _ => ∃ (s t : Addr) (q r : Rat) (b c : Bool), vs = [.ref s, .ref t] ∧ MarkAt H s q b ∧ MarkAt H t r c ∧ Sz 200 q ∧ Sz 200 r ∧ ∀ p H', Same H H' → PartAt H' p (cMark q b r c) → Q (.ref p) H'
theorem scMarkL : FnScope ["_law_first", "_law_second", "_law_total"] ["_law_first", "_law_second"] (defScope sMarkL) := ⟨rfl, rfl, rfl, by decide +kernel, rfl, by decide +kernel, by decide +kernel⟩
theorem ok_markL {f : Addr} {fd : FuncData} (F : Fun K "_law_mark" "_law_mark" sMarkL f fd) (D : DA P w K mg base) (sm : DefF P w K mg base "_law_sum" 2 ["_law_near", "_law_far"] (spSum K)) : FnOk P w K mg base CX0 3 f fd ["_law_first", "_law_second"] (spMarkL K) := by
  obtain ⟨fP, fdP, GP, gP, bP, kP⟩ := D.plain
  obtain ⟨fS, fdS, GS, gS, bS, kS⟩ := sm
  refine F.ok scMarkL (fun vs H Q E h => ?_) (fun cdv A outer s H vs Q E hr h => ?_)
  · obtain ⟨s, t, q, r, b, c, rfl, _⟩ := h
    rfl
  · obtain ⟨s, t, q, r, b, c, rfl, ⟨a1, e1, h1⟩, ⟨a2, e2, h2⟩, sq, sr, k⟩ := h
    refine ⟨_, pss_cons (ps_if (pt_not (pt_val (pe_ix ix_tup (pv 0) pe_int (fun _ _ => rfl)))) (pss_one (ps_ret (pe_ix ix_tup (pv 0) pe_int (fun _ _ => rfl)))) pss_nil)
      (pss_cons (ps_if (pt_val (pe_ix ix_tup (pv 1) pe_int (fun _ _ => rfl))) (pss_one (ps_ret (pe_ix ix_tup (pv 1) pe_int (fun _ _ => rfl)))) pss_nil)
      (pss_cons (ps_set (i := 2) scMarkL.nd rfl (Or.inl rfl) (pe_call GS (hr.mono (by decide)) rfl gS kS bS .nil pass0 (pa_cons (pe_ix ix_tup (pv 0) pe_int (fun _ _ => rfl)) (pa_cons (pe_ix ix_tup (pv 1) pe_int (fun _ _ => rfl)) pa_nil))))
      (pss_one (ps_ret (pe_call GP (hr.mono (by decide)) rfl gP kP bP .nil pass0 (pa_cons (pe_ix ix_tup (pv 2) pe_int (fun _ _ => rfl)) (pa_cons (pe_op op_mulW (pe_ix ix_tup (pv 2) pe_int (fun _ _ => rfl)) pe_int) pa_nil))))))), ?_⟩
    unfold cMark at k
    refine ⟨_, rfl, s, _, _, _, rfl, rfl, SqT.of e1, rfl, b, rfl, ?_⟩
    cases b with
    | false => exact iteT ⟨_, rfl, s, _, _, _, rfl, rfl, SqT.of e1, rfl, k a1 H (fun _ _ e => e) h1⟩
    | true =>
      refine iteF ⟨_, rfl, t, _, _, _, rfl, rfl, SqT.of e2, rfl, c, rfl, ?_⟩
      cases c with
      | true => exact iteT ⟨_, rfl, t, _, _, _, rfl, rfl, SqT.of e2, rfl, k a2 H (fun _ _ e => e) h2⟩
      | false =>
        refine iteF ⟨_, rfl, s, _, _, _, rfl, rfl, SqT.of e1, rfl, _, rfl, t, _, _, _, rfl, rfl, SqT.of e2, rfl, a1, a2, q, r, rfl, h1, h2, sq.mono (by decide), sr.mono (by decide), fun p H1 k1 _ hp => ?_⟩
        have z := rAdd_sz sq sr
        refine ⟨_, rfl, p, _, _, _, rfl, rfl, SqT.of hp, rfl, _, rfl, p, _, _, _, rfl, rfl, SqT.of hp, rfl, _, _, rfl, rfl, wide_mul (i := ((rAdd q r).den : Int)) (j := 2) (a := 401) (b := 2) (by rw [Int.natAbs_natCast]; exact z.den) (by decide) (by decide) (by decide) (by decide), ?_⟩
        refine ⟨_, _, rfl, Int.mul_ne_zero (den_ne _) (by decide), Nat.lt_of_lt_of_le z.1 (Nat.pow_le_pow_right (by decide) (by decide)), ?_, fun p2 H2 k2 _ e2 => ?_⟩
        · rw [Int.natAbs_mul, Int.natAbs_natCast]
          exact Nat.lt_of_lt_of_le (mul_lt (n := 401) (m := 2) z.den (show (2 : Int).natAbs < 2 ^ 2 by decide)) (Nat.pow_le_pow_right (by decide) (by decide))
        · rw [half_eq] at e2
          exact k p2 H2 (k1.trans k2) e2
/-! ### a pair of cuts -/
structure LP (P : Program) (w : World) (K : PySem.W.Frag) (mg : Str → Option Value) (base : Heap) : Prop where
  Z : IsF P w K mg base
  X : EF K mg
  RR : RepF P w K mg base
  told : ∃ f fd, Fun K "_law_told" "_law_told" sTold f fd ∧ mg "_law_told" = some (.ref f) ∧ Binds K fd ["_law_call"] []
  rl : DefF P w K mg base "_law_real" 4 ["_law_rng_here", "_law_part"] (spReal K)
  hd : DefF P w K mg base "_law_handed" 5 ["_law_rng_here", "_law_mark_here"] (spHanded K)
  ah : DefF P w K mg base "_law_ahead" 2 ["_law_near", "_law_far"] (spAheadL K)
  ab : DefF P w K mg base "_law_above" 2 ["_law_part", "_law_mark_here"] (spAboveL K)
  mkL : DefF P w K mg base "_law_mark" 3 ["_law_first", "_law_second"] (spMarkL K)
  is : DefG P w K mg base "_law_is" 3 ["_law_made", "_law_part"] (spIs K)
  str : DefF P w K mg base "is_stretch" 8 ["value"] (spIsStretch K)
  wi : DefF P w K mg base "is_within" 9 ["number", "stretch"] (spIsWithin K)
  mo : DefF P w K mg base "mark_of" 9 ["stretch"] (spMarkOf K)
  moX : DefX P w K mg base "mark_of" 9 ["stretch"] (spMarkX K)
abbrev nPair : List Str := ["_law_rng_here", "_law_near", "_law_far", "_law_parts", "_law_first", "_law_second", "_law_part", "_law_due"]
def spPair (K : PySem.W.Frag) (tbp tbr : Addr) : Sp := fun vs H Q _ => ∃ (p s t l : Addr) (q r : Rat) (b c : Bool) (xs : List V), vs = [.ref p, .ref s, .ref t, .ref l] ∧ Rng H p ∧ MarkAt H s q b ∧ MarkAt H t r c ∧ Sz 200 q ∧ Sz 200 r ∧ H l = some (.lst xs) ∧ l ≠ p ∧ PartsL H xs ∧ LamX.Tabs (tbs tbp tbr) H ∧ ∀ H', LamX.ExtN (off H p) H' → Rng H' p → LamX.Tabs (tbs tbp tbr) H' → Q (.bl true) H'
theorem scPair : FnScope nPair ["_law_rng_here", "_law_near", "_law_far", "_law_parts"] (defScope sPair) := ⟨rfl, rfl, rfl, by decide +kernel, rfl, by decide +kernel, by decide +kernel⟩
theorem ok_pair {f c tbp tbr : Addr} {fd : FuncData} (F : Fun K "_law_pair_right" "_law_pair_right" sPair f fd) (hc : fd.code = .ref c) (TB : LamX.TabB base mg c tbp) (ne : tbp ≠ tbr) (X : LP P w K mg base) : FnG P w K mg base CX0 12 f fd ["_law_rng_here", "_law_near", "_law_far", "_law_parts"] (spPair K tbp tbr) := by
  obtain ⟨fT, fdT, FT, gT, bT⟩ := X.told
  obtain ⟨fR, fdR, GR, gR, bR, kR⟩ := X.rl
  obtain ⟨fH, fdH, GH, gH, bH, kH⟩ := X.hd
  obtain ⟨fA, fdA, GA, gA, bA, kA⟩ := X.ah
  obtain ⟨fB, fdB, GB, gB, bB, kB⟩ := X.ab
  obtain ⟨fM, fdM, GM, gM, bM, kM⟩ := X.mkL
  obtain ⟨fI, fdI, GI, gI, bI, kI⟩ := X.is
  obtain ⟨fS, fdS, GS, gS, bS, kS⟩ := X.str
  obtain ⟨fW, fdW, GW, gW, bW, kW⟩ := X.wi
  obtain ⟨fO, fdO, GO, gO, bO, kO⟩ := X.mo
  obtain ⟨fX, fdX, GX, gX, bX, kX⟩ := X.moX
  obtain ⟨fA2, fdA2, GA2, gA2, bA2, kA2⟩ := X.Z.L.C.ahead
  have M := X.Z.D.F
  have S := X.Z.S
  obtain ⟨ocT, odT, kVT, docT, pmT, anT, cdT, ctT, oslT, rfl, lkT, hcT⟩ := FT.ex
  have kT := FT.kp
  obtain ⟨oc, od, kV, doc, pm, an, cdv, ct, osl, rfl, lk, hcd⟩ := F.ex
  obtain rfl : cdv = .ref c := hc
  refine FnG.ofBody lk hcd scPair (fun vs H Q E h => ?_) (fun A outer sh H vs Q E gd hr h => ?_)
  · obtain ⟨p, s, t, l, q, r, b, c, xs, rfl, _⟩ := h
    rfl
  · obtain ⟨p, s, t, l, q, r, b, cc, xs, rfl, R, hs, ht, sq, sr, hl, lp, hx, tabs, k⟩ := h
    have hu := hr.units
    have r2 : Room 2 _ := hr.mono (by decide)
    have r3 : Room 3 _ := hr.mono (by decide)
    have r4 : Room 4 _ := hr.mono (by decide)
    have r5 : Room 5 _ := hr.mono (by decide)
    have r7 : Room 7 _ := hr.mono (by decide)
    have r8 : Room 8 _ := hr.mono (by decide)
    have r9 : Room 9 _ := hr.mono (by decide)
    have r11 : Room 11 _ := hr.mono (by decide)
    have one : ∀ x ∈ tbs tbp tbr, x.1 = tbp → x.2 = lamP := fun x hx e => by
      simp only [List.mem_cons, List.not_mem_nil, or_false] at hx
      rcases hx with rfl | rfl
      · rfl
      · exact absurd e.symm ne
    suffices z : ∃ y, PSs (cxOf CX0 P w K mg base nPair "_law_pair_right" (defScope sPair) f (.ref c) A outer sh H E).nox (defBody sPair) y ∧ y { nx := fun _ H' => Q .non H', rt := Q } (L2.start nPair [.ref p, .ref s, .ref t, .ref l]) H by
      obtain ⟨y, h, q⟩ := z
      exact ⟨y, h.nox, q⟩
    refine ⟨_, pss_cons (ps_asg (pe_tup (pa_cons (pe_call GH r5 rfl gH kH bH .nil pass0 (pa_cons (pv 0) (pa_cons (pv 1) pa_nil))) (pa_cons (pe_call GH r5 rfl gH kH bH .nil pass0 (pa_cons (pv 0) (pa_cons (pv 2) pa_nil))) pa_nil))) (pg_tup (by rfl) (pgs_cons (pg_name (i := 4) scPair.nd rfl (.inr rfl)) (pgs_cons (pg_name (i := 5) scPair.nd rfl (.inr rfl)) pgs_nil))))
      (pss_cons (ps_if (PW.pt (pw_or (pt_cmpR op_ne (pe_call GA2 r7 rfl gA2 kA2 bA2 .nil pass0 (pa_cons (pv 4) (pa_cons (pv 5) pa_nil))) (pe_call GA r2 rfl gA kA bA .nil pass0 (pa_cons (pv 1) (pa_cons (pv 2) pa_nil))) (nomark _))
          (pw_or1 (pt_cmpR op_ne (pe_call GS r8 rfl gS kS bS .nil pass0 (pa_cons (pe_tup (pa_cons (pv 4) (pa_cons (pv 5) pa_nil))) pa_nil)) (pe_call GA r2 rfl gA kA bA .nil pass0 (pa_cons (pv 1) (pa_cons (pv 2) pa_nil))) (nomark _))))) (pss_one (ps_ret pe_bl)) pss_nil)
      (pss_cons (ps_if (pt_not (pt_val (pe_call GA r2 rfl gA kA bA .nil pass0 (pa_cons (pv 1) (pa_cons (pv 2) pa_nil)))))
        (pss_one (ps_ret (pe_cmpR (op_eqD hu) (pe_told (T := tbs tbp tbr) (TT := TT11 K) (k := 9) rfl gT kT lkT hcT bT scTold rfl (.inl rfl) (told11 (k := 6) rfl X.X S X.RR M.repr gd) TB rfl List.mem_cons_self one r11 (LamX.lamS_by (sc := defScope sPair) (by decide +kernel)) rfl (fun _ _ _ _ _ => rfl) (fun A outer s H E f c' hA hr9 => pe_call GX hr9 rfl gX kX bX .nil (passE (takes_of rfl rfl rfl rfl)) (pa_cons (pe_tup (pa_cons (pv 4) (pa_cons (pv 5) pa_nil))) pa_nil)))
          (pe_lst (pa_cons pe_str (pa_cons (pe_callB (call_repZ S X.RR gd (roomH r4)) (by rfl) M.repr (by decide +kernel) (pa_cons (pe_tup (pa_cons (pv 4) (pa_cons (pv 5) pa_nil))) pa_nil)) pa_nil))) (nomark _)))) pss_nil)
      (pss_cons (ps_for PassesOwn.never rfl (pi_list (pv 3)) (pg_name (i := 6) scPair.nd rfl (Or.inl rfl))
        (pss_cons (ps_set (i := 7) scPair.nd rfl (Or.inl rfl) (pe_and (pe_call GB r2 rfl gB kB bB .nil pass0 (pa_cons (pv 6) (pa_cons (pv 1) pa_nil))) (pe_one (pe_not (pe_call GB r2 rfl gB kB bB .nil pass0 (pa_cons (pv 6) (pa_cons (pv 2) pa_nil)))))))
        (pss_one (ps_if (pt_cmpR op_ne (pe_call GW r9 rfl gW kW bW .nil pass0 (pa_cons (pe_call GR r4 rfl gR kR bR .nil pass0 (pa_cons (pv 0) (pa_cons (pv 6) pa_nil))) (pa_cons (pe_tup (pa_cons (pv 4) (pa_cons (pv 5) pa_nil))) pa_nil))) (pv 7) (nomark _)) (pss_one (ps_ret pe_bl)) pss_nil))))
      (pss_cons (ps_set (i := 7) scPair.nd rfl (Or.inl rfl) (pe_call GM r3 rfl gM kM bM .nil pass0 (pa_cons (pv 1) (pa_cons (pv 2) pa_nil))))
      (pss_one (ps_ret (pe_and (pe_callG GI gd r3 rfl gI kI bI .nil pass0 (pa_cons (pe_call GO r9 rfl gO kO bO .nil pass0 (pa_cons (pe_tup (pa_cons (pv 4) (pa_cons (pv 5) pa_nil))) pa_nil)) (pa_cons (pv 7) pa_nil)))
        (pe_one (pe_cmpR op_isB (pe_call GW r9 rfl gW kW bW .nil pass0 (pa_cons (pe_call GO r9 rfl gO kO bO .nil pass0 (pa_cons (pe_tup (pa_cons (pv 4) (pa_cons (pv 5) pa_nil))) pa_nil)) (pa_cons (pe_tup (pa_cons (pv 4) (pa_cons (pv 5) pa_nil))) pa_nil))) pe_bl (nomark _)))))))))), ?_⟩
    have sq1 : Sz 1000 q := sq.mono (by decide)
    have sr1 : Sz 1000 r := sr.mono (by decide)
    have sq9 : Sz 100000 q := sq.mono (by decide)
    have sr9 : Sz 100000 r := sr.mono (by decide)
    refine ⟨_, rfl, _, rfl, p, s, q, b, rfl, R, hs, sq1, fun c1 H1 k1 R1 hc1 => ?_⟩
    refine ⟨_, rfl, _, rfl, p, t, r, cc, rfl, R1, (ht.offR R).same k1, sr1, fun c2 H2 k2 R2 hc2 => ⟨(by show 2 ≤ sizeLine; decide), fun tq nq => ?_⟩⟩
    have u3 := same_new (o := .tup [V.ref c1, .ref c2]) nq
    have etq : upd H2 tq (.tup [V.ref c1, .ref c2]) tq = some (.tup [V.ref c1, .ref c2]) := upd_same
    obtain ⟨B, hB⟩ : ∃ B : Hp → Prop, ∀ G, B G ↔ (LamX.ExtN (off H p) G ∧ Rng G p ∧ CutAt K G (.ref c1) q b ∧ CutAt K G (.ref c2) r cc ∧ LamX.Tabs (tbs tbp tbr) G) := ⟨_, fun _ => Iff.rfl⟩
    have tO : ∀ {G G' : Hp}, LamX.Tabs (tbs tbp tbr) G → Rng G p → Same (off G p) G' → LamX.Tabs (tbs tbp tbr) G' := by
      intro G G' t R' s
      obtain ⟨x, y, ep, _⟩ := R'
      exact Tabs.same (Tabs.offP t ep) s
    have stE : ∀ {G G' : Hp}, B G → LamX.ExtN G G' → LamX.Tabs (tbs tbp tbr) G' → B G' := by
      intro G G' x e tt
      obtain ⟨x1, x2, x3, x4, _⟩ := (hB _).mp x
      exact (hB _).mpr ⟨x1.trans e, x2.ext e, x3.ext e, x4.ext e, tt⟩
    have stS : ∀ {G G' : Hp}, B G → Same G G' → B G' := fun x s => stE x (same_extN s) (Tabs.same ((hB _).mp x).2.2.2.2 s)
    have stO : ∀ {G G' : Hp}, B G → Same (off G p) G' → Rng G' p → B G' := by
      intro G G' x s R'
      obtain ⟨x1, x2, x3, x4, x5⟩ := (hB _).mp x
      exact (hB _).mpr ⟨fun a o e n => s a o (by rw [off_ne (off_some e).1]; exact x1 a o e n), R', (x3.offR x2).same s, (x4.offR x2).same s, tO x5 x2 s⟩
    have b0 : B (upd H2 tq (.tup [V.ref c1, .ref c2])) := by
      refine stS (G := H2) ((hB _).mpr ⟨same_extN (off_off k1 k2), R2, (hc1.offR R1).same k2, hc2, tO (tO tabs R k1) R1 k2⟩) u3
    generalize upd H2 tq (.tup [V.ref c1, .ref c2]) = G0 at *
    refine ⟨tq, _, rfl, SqT.of etq, rfl, _, _, rfl, _, _, rfl, rfl, ?_⟩
    have bS : ∀ {G : Hp}, B G → MarkAt G s q b := fun x => (hs.offR R).ext ((hB _).mp x).1
    have bT : ∀ {G : Hp}, B G → MarkAt G t r cc := fun x => (ht.offR R).ext ((hB _).mp x).1
    have bR_ : ∀ {G : Hp}, B G → Rng G p := fun x => ((hB _).mp x).2.1
    have b1_ : ∀ {G : Hp}, B G → CutAt K G (.ref c1) q b := fun x => ((hB _).mp x).2.2.1
    have b2_ : ∀ {G : Hp}, B G → CutAt K G (.ref c2) r cc := fun x => ((hB _).mp x).2.2.2.1
    have bl_ : ∀ {G : Hp}, B G → G l = some (.lst xs) := fun x => ((hB _).mp x).1 l _ (by rw [off_ne lp]; exact hl) (fun _ z => by cases z)
    have bp_ : ∀ {G : Hp}, B G → PartsL G xs := fun x => (hx.offR R).ext ((hB _).mp x).1
    have tp_ : ∀ {G : Hp} {t1 : Addr}, B G → G t1 = none → B (upd G t1 (.tup [V.ref c1, .ref c2])) ∧ PairAt K (upd G t1 (.tup [V.ref c1, .ref c2])) (.ref t1) q b r cc := by
      intro G t1 x n
      have y := stS x (same_new (o := .tup [V.ref c1, .ref c2]) n)
      exact ⟨y, t1, _, _, rfl, upd_same, b1_ y, b2_ y⟩
    clear etq u3 nq hc1 hc2 k1 k2 R1 R2
    refine ⟨_, rfl, _, rfl, .ref c1, .ref c2, q, r, b, cc, rfl, b1_ b0, b2_ b0, sq9, sr9, fun G1 s1 => ?_⟩
    have w1 := stS b0 s1
    refine ⟨_, rfl, _, rfl, s, t, q, r, b, cc, rfl, bS w1, bT w1, sq1, sr1, ⟨rfl, _, rfl, ite2 (fun z => absurd z (by simp)) (fun _ => ?_)⟩⟩
    refine ⟨_, rfl, _, rfl, (by show 2 ≤ sizeLine; decide), fun t2 n2 => ?_⟩
    obtain ⟨w2, p2⟩ := tp_ w1 n2
    generalize upd G1 t2 (.tup [V.ref c1, .ref c2]) = G2 at *
    refine ⟨.ref t2, rfl, .inl ⟨q, b, r, cc, p2, sq9, sr9, fun G3 s3 => ?_⟩⟩
    have w3 := stS w2 s3
    refine ⟨_, rfl, _, rfl, s, t, q, r, b, cc, rfl, bS w3, bT w3, sq1, sr1, ⟨rfl, _, rfl, ite2 (fun z => absurd z (by simp)) (fun _ => ?_)⟩⟩
    refine ⟨_, rfl, _, rfl, s, t, q, r, b, cc, rfl, bS w3, bT w3, sq1, sr1, ⟨_, rfl, ?_⟩⟩
    clear w2 p2 s3 n2 w1 b0 s1
    have fin : ∀ {G : Hp}, B G → Q (.bl true) G := fun x => k _ ((hB _).mp x).1 ((hB _).mp x).2.1 ((hB _).mp x).2.2.2.2
    cases hA : cAhead q b r cc with
    | false =>
      refine iteT ⟨((hB _).mp w3).2.2.2.2, fun G4 x4 t4 => ?_⟩
      have w4 := stE w3 x4 t4
      obtain ⟨y1, hy1⟩ := cutZ_of (b1_ w4) (sq.mono (by decide))
      obtain ⟨y2, hy2⟩ := cutZ_of (b2_ w4) (sr.mono (by decide))
      have ok : PyData.strOk (tupleText [y1, y2]) = true := strOk_two hy1.ok hy2.ok
      have rep : ∀ {G G' : Hp} {t5 : Addr}, Same G4 G → G t5 = none → Same (upd G t5 (.tup [V.ref c1, .ref c2])) G' → RepAt K G' (.ref t5) (tupleText [y1, y2]) := by
        intro G G' t5 a n c
        have u := a.trans (same_new (o := .tup [V.ref c1, .ref c2]) n)
        exact .inr (.inr (.inr ⟨t5, _, _, y1, y2, rfl, c _ _ upd_same, hy1.same (u.trans c), hy2.same (u.trans c), rfl⟩))
      refine ⟨aIS K, "stretch", tupleText [y1, y2], .str, fun E1 H5 R5 s5 o => ?_, fun ra G5 s5 n5 e5 => ?_⟩
      · refine ⟨_, rfl, _, rfl, (by show 2 ≤ sizeLine; decide), fun t6 n6 => ?_⟩
        obtain ⟨w6, p6⟩ := tp_ (stS w4 s5) n6
        have u6 := same_new (o := .tup [V.ref c1, .ref c2]) n6
        exact ⟨.ref t6, rfl, .inr (.inr (.inr (.inr ⟨q, b, r, cc, p6, sq9, sr9, hA⟩))), fun d G7 k7 n7 e7 => o d (.ref t6) G7 (u6.trans k7) (none_of u6 n7) e7 (rep s5 n6 k7)⟩
      · have w5 := stS w4 s5
        refine ⟨_, rfl, _, rfl, (by show 2 ≤ sizeLine; decide), fun t6 n6 => ?_⟩
        obtain ⟨w6, p6⟩ := tp_ w5 n6
        refine ⟨.ref t6, _, rfl, rep s5 n6 (fun _ _ z => z), fun G7 s7 => ⟨(by show 2 ≤ sizeLine; decide), fun rb nb => ?_⟩⟩
        have w7 := stS w6 s7
        have u8 := same_new (o := .lst [V.str "stretch", .str (tupleText [y1, y2])]) nb
        have e57 := s7 _ _ (same_new (o := .tup [V.ref c1, .ref c2]) n6 _ _ e5)
        refine ⟨kdD "stretch" (tupleText [y1, y2]), kdD "stretch" (tupleText [y1, y2]), kdDp (u8 _ _ e57), kdDp upd_same, shp_kd (by decide +kernel) ok, shp_kd (by decide +kernel) ok, ?_⟩
        rw [eqv_kd]
        exact fin (stS w7 u8)
    | true =>
      refine iteF ⟨_, rfl, l, rfl, ⟨_, SqL.of (bl_ w3)⟩, ?_⟩
      refine for_list (K := K) (a := l) (xs := xs) (fun i z G => B G ∧ ∃ v6 v7, z = [some (.ref p), some (.ref s), some (.ref t), some (.ref l), some (.ref c1), some (.ref c2), v6, v7]) ?_ ?_ ?_ ?_
      · exact ⟨w3, none, none, rfl⟩
      · rintro i z G _ ⟨w, _⟩
        exact SqL.of (bl_ w)
      · rintro i y z G hy ⟨w, v6, v7, rfl⟩
        obtain ⟨pt, x, rfl, hpt, sx⟩ := bp_ w y (List.mem_of_getElem? hy)
        have sx1 : Sz 1000 x := sx.mono (by decide)
        have sx9 : Sz 100000 x := sx.mono (by decide)
        refine ⟨_, rfl, _, rfl, pt, s, x, q, b, rfl, hpt, bS w, sq1, sx1, ⟨_, rfl, ?_⟩⟩
        cases hC : cAbove x q b with
        | false =>
          refine iteF ?_
          refine ⟨_, rfl, _, rfl, p, pt, x, rfl, bR_ w, hpt, sx1, fun y8 H8 k8 R8 h8 => ?_⟩
          have w8 := stO w k8 R8
          refine ⟨_, rfl, _, rfl, (by show 2 ≤ sizeLine; decide), fun t9 n9 => ?_⟩
          obtain ⟨w9, p9⟩ := tp_ w8 n9
          have u9 := same_new (o := .tup [V.ref c1, .ref c2]) n9
          refine ⟨y8, .ref t9, x, q, r, b, cc, rfl, h8.same u9, p9, hA, sx9, sq9, sr9, fun G10 s10 => ?_⟩
          rw [hC]
          refine ⟨_, rfl, ⟨rfl, _, rfl, ite2 (fun z => absurd z (by simp)) (fun _ => ?_)⟩⟩
          exact ⟨stS w9 s10, _, _, rfl⟩
        | true =>
          refine iteT ⟨_, rfl, _, rfl, pt, t, x, r, cc, rfl, hpt, bT w, sr1, sx1, ⟨_, rfl, ?_⟩⟩
          refine ⟨_, rfl, _, rfl, p, pt, x, rfl, bR_ w, hpt, sx1, fun y8 H8 k8 R8 h8 => ?_⟩
          have w8 := stO w k8 R8
          refine ⟨_, rfl, _, rfl, (by show 2 ≤ sizeLine; decide), fun t9 n9 => ?_⟩
          obtain ⟨w9, p9⟩ := tp_ w8 n9
          have u9 := same_new (o := .tup [V.ref c1, .ref c2]) n9
          refine ⟨y8, .ref t9, x, q, r, b, cc, rfl, h8.same u9, p9, hA, sx9, sq9, sr9, fun G10 s10 => ?_⟩
          rw [hC]
          refine ⟨_, rfl, ⟨rfl, _, rfl, ite2 (fun z => absurd z (by simp)) (fun _ => ?_)⟩⟩
          exact ⟨stS w9 s10, _, _, rfl⟩
      · rintro z G ⟨w, v6, v7, rfl⟩
        refine ⟨_, rfl, _, rfl, s, t, q, r, b, cc, rfl, bS w, bT w, sq, sr, fun g H1 k1 hg => ?_⟩
        have w1 := stS w k1
        have smk : Sz 420 (cMark q b r cc) := cMark_sz sq sr
        refine ⟨_, rfl, _, rfl, (by show 2 ≤ sizeLine; decide), fun t2 n2 => ?_⟩
        obtain ⟨w2, p2⟩ := tp_ w1 n2
        have u2 := same_new (o := .tup [V.ref c1, .ref c2]) n2
        refine ⟨.ref t2, q, r, b, cc, rfl, p2, hA, sq1, sr1, fun a H3 k3 ha => ?_⟩
        have w3' := stS w2 k3
        refine ⟨_, rfl, a, g, cMark q b r cc, rfl, ha, (hg.same u2).same k3, smk.mono (by decide), fun H4 k4 => ⟨true, rfl, iteT ?_⟩⟩
        have w4 := stS w3' k4
        refine ⟨_, rfl, _, rfl, (by show 2 ≤ sizeLine; decide), fun t5 n5 => ?_⟩
        obtain ⟨w5, p5⟩ := tp_ w4 n5
        refine ⟨.ref t5, q, r, b, cc, rfl, p5, hA, sq1, sr1, fun a2 H6 k6 ha2 => ?_⟩
        have w6 := stS w5 k6
        refine ⟨_, rfl, _, rfl, (by show 2 ≤ sizeLine; decide), fun t7 n7 => ?_⟩
        obtain ⟨w7, p7⟩ := tp_ w6 n7
        have u7 := same_new (o := .tup [V.ref c1, .ref c2]) n7
        refine ⟨.ref a2, .ref t7, cMark q b r cc, q, r, b, cc, rfl, .inr ⟨a2, rfl, ha2.same u7⟩, p7, hA, smk.mono (by decide), sq9, sr9, fun H8 k8 => ?_⟩
        rw [mark_within hA]
        exact ⟨_, _, rfl, rfl, fin (stS w7 k8)⟩
end
end K18
set_option maxHeartbeats 4000000
namespace K18
open PySem PySem.Spec PyProof.Rows L2 GL
abbrev sWider : Stmt := tp 43
/-- cuts of the law's own -/
def MarksL (H : Hp) (xs : List V) : Prop := ∀ v ∈ xs, ∃ t q b, v = .ref t ∧ MarkAt H t q b ∧ Sz 200 q
theorem MarksL.same {H H' : Hp} {xs : List V} (h : MarksL H xs) (k : Same H H') : MarksL H' xs := fun v hv => by
  obtain ⟨t, q, b, e, m, s⟩ := h v hv
  exact ⟨t, q, b, e, m.same k, s⟩
theorem MarksL.offR {H : Hp} {p : Addr} {xs : List V} (h : MarksL H xs) (R : Rng H p) : MarksL (GL.off H p) xs := fun v hv => by
  obtain ⟨t, q, b, e, m, s⟩ := h v hv
  exact ⟨t, q, b, e, m.offR R, s⟩
theorem MarksL.ext {H H' : Hp} {xs : List V} (h : MarksL H xs) (k : LamX.ExtN H H') : MarksL H' xs := fun v hv => by
  obtain ⟨t, q, b, e, m, s⟩ := h v hv
  exact ⟨t, q, b, e, m.ext k, s⟩
theorem rng_off {H : Hp} {p : Addr} : Same (GL.off H p) H := fun b o e => (off_some e).2
theorem Rng.ne_new {H : Hp} {p l : Addr} (R : Rng H p) (n : H l = none) : l ≠ p := by
  obtain ⟨x, y, e, _⟩ := R
  exact (ne_of_none e n).symm
theorem sz_big {n : Nat} {q : Rat} (h : Sz n q) (k : n ≤ 100000 := by decide) : Sz 100000 q := h.mono k
theorem cInner_eq (q r z : Rat) (b : Bool) : cInner q r z b = (cAhead q false z b && cAhead z b r true) := rfl
section
variable {P : Program} {w : World} {K : PySem.W.Frag} {mg : Str → Option Value} {base : Heap}
theorem made_rngR {H : Hp} {R : VK} {E : XK} {x dx : Addr} {y z : V} {q r : Rat} (hx : H x = none) (hd : H dx = none) (ne : dx ≠ x) (hy : NumAt K H y q) (hz : NumAt K H z r) (sq : Sz 100000 q) (sr : Sz 100000 r) (le : rBelow r q = false) (k : ∀ H', Same H H' → RngAt K H' x q r → R .non H') :
    spGInit K [.ref x, y, z] (upd (upd H dx (.own x)) x (.ins (aG K) dx [])) R E := by
  have up : Same H (upd (upd H dx (.own x)) x (.ins (aG K) dx [])) := fun b o e => by rw [upd_ne (ne_of_none e hx), upd_ne (ne_of_none e hd)]; exact e
  exact ⟨x, dx, y, z, q, r, rfl, upd_same, hy.same up, hz.same up, sq, sr, le, fun H' kp hr => k H' (fun c o ec => kp c o (ne_of_none ec hx) (up _ _ ec)) hr⟩
theorem made_ratQ {H : Hp} {R : VK} {E : XK} {x dx : Addr} {q : Rat} {n : Nat} (hx : H x = none) (hd : H dx = none) (sq : Sz n q) (hn : n ≤ 9000) (k : ∀ H', Same H H' → RatAt K H' x q → R .non H') :
    spRInit K [.ref x, .int q.num, .int (q.den : Int)] (upd (upd H dx (.own x)) x (.ins (aR K) dx [])) R E :=
  ⟨x, dx, q.num, (q.den : Int), rfl, den_ne q, by rw [Int.natAbs_natCast]; exact Nat.lt_of_lt_of_le sq.den (Nat.pow_le_pow_right (by decide) hn), upd_same, fun H' e kp => k H' (fun c o ec => kp c o (ne_of_none ec hx) (by rw [upd_ne (ne_of_none ec hx), upd_ne (ne_of_none ec hd)]; exact ec)) ⟨dx, by rw [Rat.num_divInt_den] at e; exact e⟩⟩
/-- what the checks of ranges need -/
structure LW (P : Program) (w : World) (K : PySem.W.Frag) (mg : Str → Option Value) (base : Heap) : Prop where
  V : LP P w K mg base
  mG : ∃ f fd, Mk K (aG K) f ∧ FnOk P w K mg base CX0 6 f fd ["self", "low", "high"] (spGInit K) ∧ Binds K fd ["self", "low", "high"] []
  inner : MetX P w K mg base (aG K) "is_inner" 8 ["self", "cut"] (spInner K)
  fit : MetX P w K mg base (aG K) "fit" 9 ["self", "cut"] (spFitR K)
  sm : DefF P w K mg base "_law_sum" 2 ["_law_near", "_law_far"] (spSum K)
  isC : DefG P w K mg base "_law_is_cut" 4 ["_law_made", "_law_mark_here"] (spIsCutL K)
/-! ### a range and a wider one -/
def spWider (K : PySem.W.Frag) : Sp := fun vs H Q _ => ∃ (p g a c l : Addr) (q r : Rat) (xs : List V), vs = [.ref p, .ref g, .ref a, .ref c, .ref l] ∧ Rng H p ∧ RngAt K H g q r ∧ PartAt H a q ∧ PartAt H c r ∧ Sz 200 q ∧ Sz 200 r ∧ H l = some (.lst xs) ∧ l ≠ p ∧ xs.length ≤ 100 ∧ MarksL H xs ∧ ∀ H', Same (off H p) H' → Rng H' p → Q (.bl true) H'
abbrev nWider : List Str := ["_law_rng_here", "_law_made", "_law_low", "_law_high", "_law_marks", "_law_spans", "_law_held", "_law_mark_here", "_law_turn", "_law_first", "_law_second", "_law_is_inner", "_law_outer"]
theorem scWider : FnScope nWider ["_law_rng_here", "_law_made", "_law_low", "_law_high", "_law_marks"] (defScope sWider) := ⟨rfl, rfl, rfl, by decide +kernel, rfl, by decide +kernel, by decide +kernel⟩
theorem ok_wider {f : Addr} {fd : FuncData} (F : Fun K "_law_wider_right" "_law_wider_right" sWider f fd) (W : LW P w K mg base) : FnG P w K mg base CX0 10 f fd ["_law_rng_here", "_law_made", "_law_low", "_law_high", "_law_marks"] (spWider K) := by
  obtain ⟨fG, fdG, MG, GG, bG⟩ := W.mG
  obtain ⟨fN, fdN, mN, GN, bN⟩ := W.inner
  obtain ⟨fF, fdF, mF, GF, bF⟩ := W.fit
  obtain ⟨fS, fdS, GS, gS, bS, kS⟩ := W.sm
  obtain ⟨fA, fdA, GA, gA, bA, kA⟩ := W.V.ah
  obtain ⟨fH, fdH, GH, gH, bH, kH⟩ := W.V.hd
  obtain ⟨fI, fdI, GI, gI, bI, kI⟩ := W.isC
  obtain ⟨fRi, fdRi, dd, MR, GRi, vd, bRi, bR2⟩ := W.V.Z.L.C.J.I.R.G.mR
  have T := W.V.Z.L.T
  have TR := W.V.Z.L.C.J.I.R.G.T
  refine Fun.okG F scWider (fun vs H Q E h => ?_) (fun cdv A outer s H vs Q E gd hr h => ?_)
  · obtain ⟨p, g, a, c, l, q, r, xs, rfl, _⟩ := h
    rfl
  · obtain ⟨p, g, a, c, l, q, r, xs, rfl, R, hg, ha, hc, sq, sr, hl, lp, len, mk, k⟩ := h
    have r2 : Room 2 _ := hr.mono (by decide)
    have r3 : Room 3 _ := hr.mono (by decide)
    have r4 : Room 4 _ := hr.mono (by decide)
    have r5 : Room 5 _ := hr.mono (by decide)
    have r7 : Room 7 _ := hr.mono (by decide)
    have r8 : Room 8 _ := hr.mono (by decide)
    have r9 : Room 9 _ := hr.mono (by decide)
    refine ⟨_, pss_cons (ps_set (i := 5) scWider.nd rfl (Or.inl rfl) (pe_lst (pa_cons (pe_tup (pa_cons (pv 2) (pa_cons (pv 3) pa_nil))) (pa_cons (pe_tup (pa_cons (pe_call GS r2 rfl gS kS bS .nil pass0 (pa_cons (pv 2) (pa_cons (pe_tup (pa_cons (pe_un un_neg pe_int) (pa_cons pe_int pa_nil))) pa_nil))) (pa_cons (pe_call GS r2 rfl gS kS bS .nil pass0 (pa_cons (pv 3) (pa_cons (pe_tup (pa_cons pe_int (pa_cons pe_int pa_nil))) pa_nil))) pa_nil))) pa_nil))))
      (pss_cons (ps_set (i := 6) scWider.nd rfl (Or.inl rfl) (pe_lst (pa_cons (pv 1) (pa_cons (pe_make MG GG r7 rfl T.gG bG .nil pass0 (pa_cons (pe_make MR GRi r3 rfl TR.gR bR2 .nil pass0 (pa_cons (pe_ix ix_tup (pe_ix ix_tup (pe_ix ix_list (pv 5) pe_int (fun _ _ => rfl)) pe_int (fun _ _ => rfl)) pe_int (fun _ _ => rfl)) (pa_cons (pe_ix ix_tup (pe_ix ix_tup (pe_ix ix_list (pv 5) pe_int (fun _ _ => rfl)) pe_int (fun _ _ => rfl)) pe_int (fun _ _ => rfl)) pa_nil))) (pa_cons (pe_make MR GRi r3 rfl TR.gR bR2 .nil pass0 (pa_cons (pe_ix ix_tup (pe_ix ix_tup (pe_ix ix_list (pv 5) pe_int (fun _ _ => rfl)) pe_int (fun _ _ => rfl)) pe_int (fun _ _ => rfl)) (pa_cons (pe_ix ix_tup (pe_ix ix_tup (pe_ix ix_list (pv 5) pe_int (fun _ _ => rfl)) pe_int (fun _ _ => rfl)) pe_int (fun _ _ => rfl)) pa_nil))) pa_nil))) pa_nil))))
      (pss_cons (ps_for PassesOwn.never rfl (pi_list (pe_op op_cat (pv 4) (pe_lst (pa_cons (pe_tup (pa_cons (pv 2) (pa_cons pe_bl pa_nil))) (pa_cons (pe_tup (pa_cons (pv 3) (pa_cons pe_bl pa_nil))) pa_nil))))) (pg_name (i := 7) scWider.nd rfl (Or.inl rfl))
        (pss_one (ps_for PassesOwn.never rfl (pi_tup (pe_tup (pa_cons pe_int (pa_cons pe_int (pa_cons pe_int pa_nil))))) (pg_name (i := 8) scWider.nd rfl (Or.inl rfl))
          (pss_cons (ps_par (i := 9) (j := 10) (by rfl) scWider.nd rfl rfl (by decide) rfl rfl (pa_cons (pe_tup (pa_cons (pe_ix ix_tup (pe_ix ix_list (pv 5) (pv 8) (fun _ _ => rfl)) pe_int (fun _ _ => rfl)) (pa_cons pe_bl pa_nil))) (pa_cons (pe_tup (pa_cons (pe_ix ix_tup (pe_ix ix_list (pv 5) (pv 8) (fun _ _ => rfl)) pe_int (fun _ _ => rfl)) (pa_cons pe_bl pa_nil))) pa_nil)) (by rfl))
          (pss_cons (ps_set (i := 11) scWider.nd rfl (Or.inl rfl) (pe_and (pe_call GA r2 rfl gA kA bA .nil pass0 (pa_cons (pv 9) (pa_cons (pv 7) pa_nil))) (pe_one (pe_call GA r2 rfl gA kA bA .nil pass0 (pa_cons (pv 7) (pa_cons (pv 10) pa_nil))))))
          (pss_cons (ps_set (i := 12) scWider.nd rfl (Or.inl rfl) (pe_ifExp (pt_val (pe_call GA r2 rfl gA kA bA .nil pass0 (pa_cons (pv 9) (pa_cons (pv 7) pa_nil)))) (pv 10) (pv 9)))
          (pss_cons (ps_if (pt_cmpR op_ne (pe_meth (pe_ix ix_list (pv 6) (pv 8) (fun _ _ => rfl)) T.cl mN GN r8 bN .nil pass0 (pa_cons (pe_call GH r5 rfl gH kH bH .nil pass0 (pa_cons (pv 0) (pa_cons (pv 7) pa_nil))) pa_nil)) (pv 11) (nomark _)) (pss_one (ps_ret pe_bl)) pss_nil)
          (pss_one (ps_if (pt_not (pt_val (pe_callG GI gd r4 rfl gI kI bI .nil pass0 (pa_cons (pe_meth (pe_ix ix_list (pv 6) (pv 8) (fun _ _ => rfl)) T.cl mF GF r9 bF .nil pass0 (pa_cons (pe_call GH r5 rfl gH kH bH .nil pass0 (pa_cons (pv 0) (pa_cons (pv 7) pa_nil))) pa_nil)) (pa_cons (pe_ifExp (pt_val (pv 11)) (pv 7) (pv 12)) pa_nil))))) (pss_one (ps_ret pe_bl)) pss_nil)))))))))
      (pss_one (ps_ret pe_bl)))), ?_⟩
    have le : rBelow r q = false := hg.1
    have sq1 : Sz 1000 q := sq.mono (by decide)
    have sr1 : Sz 1000 r := sr.mono (by decide)
    have z1 : Sz 2 (1 : Rat) := ⟨by decide, by decide⟩
    have zm1 : Sz 2 (-1 : Rat) := ⟨by decide, by decide⟩
    refine ⟨_, rfl, _, rfl, (by show 2 ≤ sizeLine; decide), fun e0 n0 => ?_⟩
    have ue0 := same_new (o := .tup [V.ref a, .ref c]) n0
    have fe0 : upd H e0 (.tup [V.ref a, .ref c]) e0 = some (.tup [V.ref a, .ref c]) := upd_same
    generalize upd H e0 (.tup [V.ref a, .ref c]) = H1 at *
    refine ⟨_, rfl, _, rfl, (by show 2 ≤ sizeLine; decide), fun tm nm => ?_⟩
    have utm := same_new (o := .tup [V.int (-1), .int 1]) nm
    have ftm : upd H1 tm (.tup [V.int (-1), .int 1]) tm = some (.tup [V.int (-1), .int 1]) := upd_same
    generalize upd H1 tm (.tup [V.int (-1), .int 1]) = H2 at *
    have k2 := ue0.trans utm
    refine ⟨a, tm, q, -1, rfl, ha.same k2, ftm, sq1, zm1.mono (by decide), fun a1 H3 k3 _ ha1 => ?_⟩
    have k3' := k2.trans k3
    refine ⟨_, rfl, (by show 2 ≤ sizeLine; decide), fun tp np => ?_⟩
    have utp := same_new (o := .tup [V.int 1, .int 1]) np
    have ftp : upd H3 tp (.tup [V.int 1, .int 1]) tp = some (.tup [V.int 1, .int 1]) := upd_same
    generalize upd H3 tp (.tup [V.int 1, .int 1]) = H4 at *
    have k4 := k3'.trans utp
    refine ⟨c, tp, r, 1, rfl, hc.same k4, ftp, sr1, z1.mono (by decide), fun c1 H5 k5 _ hc1 => ⟨(by show 2 ≤ sizeLine; decide), fun e1 n1 => ?_⟩⟩
    replace ha1 := (ha1.same utp).same k5
    have k5' := k4.trans k5
    replace fe0 := k5 _ _ (utp _ _ (k3 _ _ (utm _ _ fe0)))
    have ue1 := same_new (o := .tup [V.ref a1, .ref c1]) n1
    have fe1 : upd H5 e1 (.tup [V.ref a1, .ref c1]) e1 = some (.tup [V.ref a1, .ref c1]) := upd_same
    generalize upd H5 e1 (.tup [V.ref a1, .ref c1]) = H6 at *
    have k6 := k5'.trans ue1
    replace ha1 := ha1.same ue1
    replace hc1 := hc1.same ue1
    replace fe0 := ue1 _ _ fe0
    have sq' : Sz 300 (rAdd q (-1)) := (rAdd_sz2 sq zm1).mono (by decide)
    have sr' : Sz 300 (rAdd r 1) := (rAdd_sz2 sr z1).mono (by decide)
    have le1 : rBelow (rAdd r 1) (rAdd q (-1)) = false := by
      rw [rBelow_not, rAdd_eq, rAdd_eq]
      have := rBelow_not.mp le
      grind
    generalize hq1 : rAdd q (-1) = q1 at *
    generalize hr1 : rAdd r 1 = r1 at *
    refine ⟨(by show 2 ≤ sizeLine; decide), fun ls nls => ?_⟩
    have uls := same_new (o := .lst [V.ref e0, .ref e1]) nls
    have fls : upd H6 ls (.lst [V.ref e0, .ref e1]) ls = some (.lst [V.ref e0, .ref e1]) := upd_same
    generalize upd H6 ls (.lst [V.ref e0, .ref e1]) = H7 at *
    have k7 := k6.trans uls
    replace ha1 := ha1.same uls
    replace hc1 := hc1.same uls
    replace fe0 := uls _ _ fe0
    replace fe1 := uls _ _ fe1
    refine ⟨_, rfl, _, rfl, ls, _, _, _, rfl, rfl, SqL.of fls, rfl, e1, _, _, _, rfl, rfl, SqT.of fe1, rfl, a1, _, _, _, rfl, rfl, SqT.of ha1, rfl, ?_⟩
    refine ⟨_, rfl, ls, _, _, _, rfl, rfl, SqL.of fls, rfl, e1, _, _, _, rfl, rfl, SqT.of fe1, rfl, a1, _, _, _, rfl, rfl, SqT.of ha1, rfl, ?_⟩
    intro x1 d1 nx nd ne
    refine made_ratQ nx nd sq' (by decide) fun H8 k8 hx1 => ⟨rfl, ?_⟩
    refine ⟨_, rfl, ls, _, _, _, rfl, rfl, SqL.of (k8 _ _ fls), rfl, e1, _, _, _, rfl, rfl, SqT.of (k8 _ _ fe1), rfl, c1, _, _, _, rfl, rfl, SqT.of (hc1.same k8), rfl, ?_⟩
    refine ⟨_, rfl, ls, _, _, _, rfl, rfl, SqL.of (k8 _ _ fls), rfl, e1, _, _, _, rfl, rfl, SqT.of (k8 _ _ fe1), rfl, c1, _, _, _, rfl, rfl, SqT.of (hc1.same k8), rfl, ?_⟩
    intro x2 d2 nx2 nd2 ne2
    refine made_ratQ nx2 nd2 sr' (by decide) fun H9 k9 hx2 => ⟨rfl, ?_⟩
    intro g1 dg ng ngd neg
    refine made_rngR ng ngd neg (.inr ⟨x1, rfl, hx1.same k9⟩) (.inr ⟨x2, rfl, hx2⟩) (sz_big sq') (sz_big sr') le1 fun H10 k10 hg1 => ⟨rfl, (by show 2 ≤ sizeLine; decide), fun lh nlh => ?_⟩
    have k89 := (k8.trans k9).trans k10
    have ulh := same_new (o := .lst [V.ref g, .ref g1]) nlh
    have flh : upd H10 lh (.lst [V.ref g, .ref g1]) lh = some (.lst [V.ref g, .ref g1]) := upd_same
    generalize upd H10 lh (.lst [V.ref g, .ref g1]) = H11 at *
    have k11 := k89.trans ulh
    have k011 := k7.trans k11
    replace ha1 := ha1.same k11
    replace hc1 := hc1.same k11
    replace fe0 := k11 _ _ fe0
    replace fe1 := k11 _ _ fe1
    replace fls := k11 _ _ fls
    replace hg1 := hg1.same ulh
    refine ⟨_, rfl, _, rfl, (by show 2 ≤ sizeLine; decide), fun m1 nm1 => ?_⟩
    have um1 := same_new (o := .tup [V.ref a, .bl false]) nm1
    have fm1 : upd H11 m1 (.tup [V.ref a, .bl false]) m1 = some (.tup [V.ref a, .bl false]) := upd_same
    generalize upd H11 m1 (.tup [V.ref a, .bl false]) = H12 at *
    refine ⟨_, rfl, (by show 2 ≤ sizeLine; decide), fun m2 nm2 => ?_⟩
    have um2 := same_new (o := .tup [V.ref c, .bl true]) nm2
    have fm2 : upd H12 m2 (.tup [V.ref c, .bl true]) m2 = some (.tup [V.ref c, .bl true]) := upd_same
    generalize upd H12 m2 (.tup [V.ref c, .bl true]) = H13 at *
    refine ⟨(by show 2 ≤ sizeLine; decide), fun l2 nl2 => ?_⟩
    have ul2 := same_new (o := .lst [V.ref m1, .ref m2]) nl2
    have fl2 : upd H13 l2 (.lst [V.ref m1, .ref m2]) l2 = some (.lst [V.ref m1, .ref m2]) := upd_same
    generalize upd H13 l2 (.lst [V.ref m1, .ref m2]) = H14 at *
    have k1114 := (um1.trans um2).trans ul2
    have k014 := k011.trans k1114
    refine ⟨l, l2, _, _, rfl, rfl, k014 _ _ hl, fl2, (by first | (show (xs ++ [V.ref m1, .ref m2]).length ≤ sizeLine; rw [List.length_append, sizeLine_eq]; simp; omega) | (rw [sizeLine_eq]; simp; omega)), fun l3 n3 => ?_⟩
    have ul3 := same_new (o := .lst (xs ++ [V.ref m1, .ref m2])) n3
    have fl3 : upd H14 l3 (.lst (xs ++ [V.ref m1, .ref m2])) l3 = some (.lst (xs ++ [V.ref m1, .ref m2])) := upd_same
    generalize upd H14 l3 (.lst (xs ++ [V.ref m1, .ref m2])) = H15 at *
    have k1115 := k1114.trans ul3
    have k015 := k011.trans k1115
    have R15 := R.same k015
    have l3p : l3 ≠ p := (R.same k014).ne_new n3
    have m15 : MarksL H15 (xs ++ [V.ref m1, .ref m2]) := by
      intro v hv
      rcases List.mem_append.mp hv with hv | hv
      · exact (mk.same k015) v hv
      · simp only [List.mem_cons, List.not_mem_nil, or_false] at hv
        rcases hv with rfl | rfl
        · exact ⟨m1, q, false, rfl, ⟨a, (ul3 _ _ (ul2 _ _ (um2 _ _ fm1))), ha.same k015⟩, sq⟩
        · exact ⟨m2, r, true, rfl, ⟨c, (ul3 _ _ (ul2 _ _ fm2)), hc.same k015⟩, sr⟩
    have spans : ∀ i : Int, i = 0 ∨ i = 1 → ∃ (ei gi ai ci : Addr) (qi ri : Rat), atI [V.ref e0, .ref e1] i = some (.ref ei) ∧ atI [V.ref g, .ref g1] i = some (.ref gi) ∧ H15 ei = some (.tup [.ref ai, .ref ci]) ∧ PartAt H15 ai qi ∧ PartAt H15 ci ri ∧ RngAt K H15 gi qi ri ∧ Sz 300 qi ∧ Sz 300 ri := by
      rintro i (rfl | rfl)
      · exact ⟨e0, g, a, c, q, r, rfl, rfl, k1115 _ _ fe0, ha.same k015, hc.same k015, hg.same k015, sq.mono (by decide), sr.mono (by decide)⟩
      · exact ⟨e1, g1, a1, c1, q1, r1, rfl, rfl, k1115 _ _ fe1, ha1.same k1115, hc1.same k1115, hg1.same k1115, sq', sr'⟩
    have fls15 := k1115 _ _ fls
    have flh15 := k1115 _ _ flh
    have lsp : ls ≠ p := (R.same k6).ne_new nls
    have lhp : lh ≠ p := (R.same (k7.trans k89)).ne_new nlh
    clear fe0 fe1 ha1 hc1 hg1 um1 um2 ul2 ul3 fm1 fm2 fl2 nm1 nm2 nl2 n3 flh fls ulh nlh k10 k9 k8 hx1 hx2 nx nd ne nx2 nd2 ne2 ng ngd neg
    have ko15 : Same (off H p) H15 := fun y o e => k015 y o (rng_off y o e)
    refine ⟨l3, rfl, ⟨_, SqL.of fl3⟩, ?_⟩
    refine for_list (K := K) (a := l3) (xs := xs ++ [V.ref m1, .ref m2]) (fun i z G => Same (off H15 p) G ∧ Rng G p ∧ ∃ v7 v8 v9 v10 v11 v12, z = [some (.ref p), some (.ref g), some (.ref a), some (.ref c), some (.ref l), some (.ref ls), some (.ref lh), v7, v8, v9, v10, v11, v12]) ?_ ?_ ?_ ?_
    · exact ⟨rng_off, R15, none, none, none, none, none, none, rfl⟩
    · rintro i z G _ ⟨kG, _⟩
      exact SqL.of (kG l3 _ (by rw [off_ne l3p]; exact fl3))
    · rintro i y z G hy ⟨kG, RG, v7, v8, v9, v10, v11, v12, rfl⟩
      obtain ⟨mt, x, b, rfl, hmk, sx⟩ := ((m15.offR R15).same kG) y (List.mem_of_getElem? hy)
      refine ⟨(by show 3 ≤ sizeLine; decide), fun tt ntt => ?_⟩
      have utt := same_new (o := .tup [V.int 1, .int 0, .int 1]) ntt
      have ftt : upd G tt (.tup [V.int 1, .int 0, .int 1]) tt = some (.tup [V.int 1, .int 0, .int 1]) := upd_same
      have ttp : tt ≠ p := RG.ne_new ntt
      have RG' := RG.same utt
      have kG' : Same (off H15 p) (upd G tt (.tup [V.int 1, .int 0, .int 1])) := kG.trans utt
      have hmk' := hmk.same utt
      generalize upd G tt (.tup [V.int 1, .int 0, .int 1]) = G1 at *
      clear utt ntt hmk RG kG
      refine ⟨tt, rfl, ⟨_, SqT.of ftt⟩, ?_⟩
      refine for_tup (K := K) (a := tt) (xs := [V.int 1, .int 0, .int 1]) (fun i z G' => Same (off G1 p) G' ∧ Rng G' p ∧ ∃ v8 v9 v10 v11 v12, z = [some (.ref p), some (.ref g), some (.ref a), some (.ref c), some (.ref l), some (.ref ls), some (.ref lh), some (.ref mt), v8, v9, v10, v11, v12]) ?_ ?_ ?_ ?_
      · exact ⟨rng_off, RG', _, _, _, _, _, rfl⟩
      · rintro i z G' _ ⟨k1, _⟩
        exact SqT.of (k1 tt _ (by rw [off_ne ttp]; exact ftt))
      · rintro j y z G' hy' ⟨k1, R1, w8, w9, w10, w11, w12, rfl⟩
        have yi : ∃ i : Int, y = .int i ∧ (i = 0 ∨ i = 1) := by
          have m := List.mem_of_getElem? hy'
          simp only [List.mem_cons, List.not_mem_nil, or_false] at m
          rcases m with rfl | rfl | rfl
          · exact ⟨1, rfl, .inr rfl⟩
          · exact ⟨0, rfl, .inl rfl⟩
          · exact ⟨1, rfl, .inr rfl⟩
        obtain ⟨i0, rfl, hi0⟩ := yi
        obtain ⟨ei, gi, ai, ci, qi, ri, at1, at2, fe, hai, hci, hgi, sqi, sri⟩ := spans i0 hi0
        have kk : Same (off H15 p) G' := off_off kG' k1
        have fls' := kk ls _ (by rw [off_ne lsp]; exact fls15)
        have flh' := kk lh _ (by rw [off_ne lhp]; exact flh15)
        have fe' : G' ei = some (.tup [.ref ai, .ref ci]) := kk ei _ (R15.at_off fe (fun _ z => by cases z))
        have hai' := (hai.offR R15).same kk
        have hci' := (hci.offR R15).same kk
        have hgi' := (hgi.offR R15).same kk
        have hm1 := (hmk'.offR RG').same k1
        have sx1 : Sz 1000 x := sx.mono (by decide)
        have sqi1 : Sz 1000 qi := sqi.mono (by decide)
        have sri1 : Sz 1000 ri := sri.mono (by decide)
        refine ⟨_, rfl, _, rfl, ls, _, _, _, rfl, rfl, SqL.of fls', at1, ei, _, _, _, rfl, rfl, SqT.of fe', rfl, (by show 2 ≤ sizeLine; decide), fun f1 nf1 => ?_⟩
        have uf1 := same_new (o := .tup [V.ref ai, .bl false]) nf1
        have ff1 : upd G' f1 (.tup [V.ref ai, .bl false]) f1 = some (.tup [V.ref ai, .bl false]) := upd_same
        generalize upd G' f1 (.tup [V.ref ai, .bl false]) = G2 at *
        refine ⟨_, rfl, _, rfl, ls, _, _, _, rfl, rfl, SqL.of (uf1 _ _ fls'), at1, ei, _, _, _, rfl, rfl, SqT.of (uf1 _ _ fe'), rfl, (by show 2 ≤ sizeLine; decide), fun f2 nf2 => ?_⟩
        have uf2 := same_new (o := .tup [V.ref ci, .bl true]) nf2
        have ff2 : upd G2 f2 (.tup [V.ref ci, .bl true]) f2 = some (.tup [V.ref ci, .bl true]) := upd_same
        generalize upd G2 f2 (.tup [V.ref ci, .bl true]) = G3 at *
        have u13 := uf1.trans uf2
        have hF : MarkAt G3 f1 qi false := ⟨ai, uf2 _ _ ff1, hai'.same u13⟩
        have hS : MarkAt G3 f2 ri true := ⟨ci, ff2, hci'.same u13⟩
        have hM := hm1.same u13
        have R3 := R1.same u13
        have hg3 := hgi'.same u13
        have flh3 := u13 _ _ flh'
        have k13 : Same (off G1 p) G3 := k1.trans u13
        clear uf1 uf2 nf1 nf2 ff1 ff2 fls' fe' hai' hci' hgi' hm1 flh' u13
        refine ⟨_, _, rfl, ?_⟩
        refine ⟨_, rfl, _, rfl, f1, mt, qi, x, false, b, rfl, hF, hM, sqi1, sx1, ⟨_, rfl, ?_⟩⟩
        cases hA : cAhead qi false x b with
        | false =>
          refine iteF ?_
          refine ⟨_, rfl, _, rfl, f1, mt, qi, x, false, b, rfl, hF, hM, sqi1, sx1, ⟨_, rfl, ?_⟩⟩
          rw [hA]
          refine iteF ⟨_, rfl, ?_⟩
          refine ⟨_, rfl, _, rfl, lh, _, _, _, rfl, rfl, SqL.of flh3, at2, ?_⟩
          obtain ⟨_, dx, _, _, es, _⟩ := id hg3
          refine ⟨gi, dx, _, rfl, es, rfl, _, rfl, _, rfl, p, mt, x, b, rfl, R3, hM, sx1, fun ct H8 k8 R8 hct => ?_⟩
          refine ⟨gi, .ref ct, qi, ri, x, b, rfl, (hg3.offR R3).same k8, hct, sz_big sqi, sz_big sri, sz_big sx, fun H9 k9 => ?_⟩
          rw [show cInner qi ri x b = false by rw [cInner_eq, hA, Bool.false_and]]
          refine ⟨_, rfl, ⟨rfl, _, rfl, ite2 (fun z => absurd z (by simp)) (fun _ => ?_)⟩⟩
          have k39 : Same (off G3 p) H9 := k8.trans k9
          have R9 := R8.same k9
          have hg9 := (hg3.offR R3).same k39
          have flh9 := k39 lh _ (by rw [off_ne lhp]; exact flh3)
          obtain ⟨_, dx, _, _, es, _⟩ := id hg9
          refine ⟨_, rfl, _, rfl, lh, _, _, _, rfl, rfl, SqL.of flh9, at2, ?_⟩
          refine ⟨gi, dx, _, rfl, es, rfl, _, rfl, _, rfl, p, mt, x, b, rfl, R9, (hM.offR R3).same k39, sx1, fun ct2 H10 k10 R10 hct2 => ?_⟩
          refine ⟨gi, .ref ct2, qi, ri, x, b, rfl, (hg9.offR R9).same k10, hct2, sz_big sqi, sz_big sri, sz_big sx, fun cf H11 k11 hcf => ?_⟩
          have k311 : Same (off G3 p) H11 := (off_off k39 k10).trans k11
          have eI : cInner qi ri x b = false := by rw [cInner_eq, hA]; rfl
          have eQ : cFitQ qi ri x b = qi := by unfold cFitQ; rw [eI, hA]; rfl
          have eB : cFitB qi ri x b = false := by unfold cFitB; rw [eI, hA]; rfl
          rw [eQ, eB] at hcf
          refine ⟨_, rfl, _, rfl, iteF ⟨_, rfl, cf, f1, _, _, rfl, hcf, (hF.offR R3).same k311, (sqi).mono (by decide), fun H12 k12 => ⟨true, rfl, iteF ?_⟩⟩⟩
          exact ⟨off_off k13 (k311.trans k12), (R10.same k11).same k12, _, _, _, _, _, rfl⟩
        | true =>
          refine iteT ⟨_, rfl, _, rfl, mt, f2, x, ri, b, true, rfl, hM, hS, sx1, sri1, ?_⟩
          refine ⟨_, rfl, _, rfl, f1, mt, qi, x, false, b, rfl, hF, hM, sqi1, sx1, ⟨_, rfl, ?_⟩⟩
          rw [hA]
          refine iteT ⟨_, rfl, ?_⟩
          cases hB : cAhead x b ri true with
          | false =>
            refine ⟨_, rfl, _, rfl, lh, _, _, _, rfl, rfl, SqL.of flh3, at2, ?_⟩
            obtain ⟨_, dx, _, _, es, _⟩ := id hg3
            refine ⟨gi, dx, _, rfl, es, rfl, _, rfl, _, rfl, p, mt, x, b, rfl, R3, hM, sx1, fun ct H8 k8 R8 hct => ?_⟩
            refine ⟨gi, .ref ct, qi, ri, x, b, rfl, (hg3.offR R3).same k8, hct, sz_big sqi, sz_big sri, sz_big sx, fun H9 k9 => ?_⟩
            rw [show cInner qi ri x b = false by rw [cInner_eq, hA, hB]; rfl]
            refine ⟨_, rfl, ⟨rfl, _, rfl, ite2 (fun z => absurd z (by simp)) (fun _ => ?_)⟩⟩
            have k39 : Same (off G3 p) H9 := k8.trans k9
            have R9 := R8.same k9
            have hg9 := (hg3.offR R3).same k39
            have flh9 := k39 lh _ (by rw [off_ne lhp]; exact flh3)
            obtain ⟨_, dx, _, _, es, _⟩ := id hg9
            refine ⟨_, rfl, _, rfl, lh, _, _, _, rfl, rfl, SqL.of flh9, at2, ?_⟩
            refine ⟨gi, dx, _, rfl, es, rfl, _, rfl, _, rfl, p, mt, x, b, rfl, R9, (hM.offR R3).same k39, sx1, fun ct2 H10 k10 R10 hct2 => ?_⟩
            refine ⟨gi, .ref ct2, qi, ri, x, b, rfl, (hg9.offR R9).same k10, hct2, sz_big sqi, sz_big sri, sz_big sx, fun cf H11 k11 hcf => ?_⟩
            have k311 : Same (off G3 p) H11 := (off_off k39 k10).trans k11
            have eI : cInner qi ri x b = false := by rw [cInner_eq, hA, hB]; rfl
            have eQ : cFitQ qi ri x b = ri := by unfold cFitQ; rw [eI, hA]; rfl
            have eB : cFitB qi ri x b = true := by unfold cFitB; rw [eI, hA]; rfl
            rw [eQ, eB] at hcf
            refine ⟨_, rfl, _, rfl, iteF ⟨_, rfl, cf, f2, _, _, rfl, hcf, (hS.offR R3).same k311, (sri).mono (by decide), fun H12 k12 => ⟨true, rfl, iteF ?_⟩⟩⟩
            exact ⟨off_off k13 (k311.trans k12), (R10.same k11).same k12, _, _, _, _, _, rfl⟩
          | true =>
            refine ⟨_, rfl, _, rfl, lh, _, _, _, rfl, rfl, SqL.of flh3, at2, ?_⟩
            obtain ⟨_, dx, _, _, es, _⟩ := id hg3
            refine ⟨gi, dx, _, rfl, es, rfl, _, rfl, _, rfl, p, mt, x, b, rfl, R3, hM, sx1, fun ct H8 k8 R8 hct => ?_⟩
            refine ⟨gi, .ref ct, qi, ri, x, b, rfl, (hg3.offR R3).same k8, hct, sz_big sqi, sz_big sri, sz_big sx, fun H9 k9 => ?_⟩
            rw [show cInner qi ri x b = true by rw [cInner_eq, hA, hB]; rfl]
            refine ⟨_, rfl, ⟨rfl, _, rfl, ite2 (fun z => absurd z (by simp)) (fun _ => ?_)⟩⟩
            have k39 : Same (off G3 p) H9 := k8.trans k9
            have R9 := R8.same k9
            have hg9 := (hg3.offR R3).same k39
            have flh9 := k39 lh _ (by rw [off_ne lhp]; exact flh3)
            obtain ⟨_, dx, _, _, es, _⟩ := id hg9
            refine ⟨_, rfl, _, rfl, lh, _, _, _, rfl, rfl, SqL.of flh9, at2, ?_⟩
            refine ⟨gi, dx, _, rfl, es, rfl, _, rfl, _, rfl, p, mt, x, b, rfl, R9, (hM.offR R3).same k39, sx1, fun ct2 H10 k10 R10 hct2 => ?_⟩
            refine ⟨gi, .ref ct2, qi, ri, x, b, rfl, (hg9.offR R9).same k10, hct2, sz_big sqi, sz_big sri, sz_big sx, fun cf H11 k11 hcf => ?_⟩
            have k311 : Same (off G3 p) H11 := (off_off k39 k10).trans k11
            have eI : cInner qi ri x b = true := by rw [cInner_eq, hA, hB]; rfl
            have eQ : cFitQ qi ri x b = x := by unfold cFitQ; rw [eI]; rfl
            have eB : cFitB qi ri x b = b := by unfold cFitB; rw [eI]; rfl
            rw [eQ, eB] at hcf
            refine ⟨_, rfl, _, rfl, iteT ⟨_, rfl, cf, mt, _, _, rfl, hcf, (hM.offR R3).same k311, (sx).mono (by decide), fun H12 k12 => ⟨true, rfl, iteF ?_⟩⟩⟩
            exact ⟨off_off k13 (k311.trans k12), (R10.same k11).same k12, _, _, _, _, _, rfl⟩
      · rintro z G' ⟨k1, R1, w8, w9, w10, w11, w12, rfl⟩
        exact ⟨off_off kG' k1, R1, _, _, _, _, _, _, rfl⟩
    · rintro z G ⟨kG, RG, v7, v8, v9, v10, v11, v12, rfl⟩
      exact k G (off_off ko15 kG) RG
end
end K18
set_option maxHeartbeats 4000000
namespace K18
open PySem PySem.Spec PyProof.Rows L2 GL
abbrev sRangeR : Stmt := tp 44
section
variable {P : Program} {w : World} {K : PySem.W.Frag} {mg : Str → Option Value} {base : Heap}
structure Far (K : PySem.W.Frag) (C : Addr) (T : String) : Prop where
  nf : PySem.W.notFirst K C (.type T) = true
  kt : PySem.W.kitOne K (.type T) (.ref C) = some false
/-- what the checks of one range need -/
structure LG (P : Program) (w : World) (K : PySem.W.Frag) (mg : Str → Option Value) (base : Heap) : Prop where
  W : LW P w K mg base
  gLow : PropX P w K mg base (aG K) "low" (spGetR K fun q _ => q)
  gHigh : PropX P w K mg base (aG K) "high" (spGetR K fun _ r => r)
  outer : MetX P w K mg base (aG K) "outer" 1 ["self"] (spOuterR K)
  has : MetX P w K mg base (aG K) "has_stretch" 9 ["self", "value"] (spHas K)
  holds : ∃ f, Meth K (aG K) "__contains__" f ∧ FnR P w K mg base CX0 6 f (spHolds K)
  eq : ∃ f, OwnEq K (aG K) f ∧ FnR P w K mg base CX0 2 f (spGEq K)
  rep : ∃ f, Meth K (aG K) "__repr__" f ∧ FnR P w K mg base CX0 3 f (spGRepr K)
  far : Far K (aG K) "tuple"
  ls : DefF P w K mg base "_law_less" 1 ["_law_near", "_law_far"] (spLess K)
  wd : DefG P w K mg base "_law_wider_right" 10 ["_law_rng_here", "_law_made", "_law_low", "_law_high", "_law_marks"] (spWider K)
theorem eq_rngT {H : Hp} {g t : Addr} {q r : Rat} {xs : List V} {Q : VK} (F : Far K (aG K) "tuple") (hx : RngAt K H g q r) (ht : H t = some (.tup xs)) (k : Q (.bl false) H) : rOwnE K (aG K) (spGEq K) E0 (.ref g) (.ref t) H Q := by
  obtain ⟨le, dx, a, b, e, _⟩ := id hx
  exact ⟨g, dx, _, .type "tuple", rfl, e, .base (.tup ht), F.nf, g, .ref t, q, r, rfl, hx, .inr ⟨.type "tuple", .base (.tup ht), F.kt, k⟩⟩
theorem ne_rngS {mg' : Str → Option Value} {H : Hp} {g g2 : Addr} {q r q2 r2 : Rat} {Q : VK} (T : GF K mg') (hx : RngAt K H g q r) (hy : RngAt K H g2 q2 r2) (k : Q (.bl !(decide (q = q2) && decide (r = r2))) H) : rOwnN K (aG K) (spGEq K) E0 (.ref g) (.ref g2) H Q := by
  obtain ⟨le, dx, a, b, e, _⟩ := id hx
  exact ⟨g, dx, _, .ref (aG K), rfl, e, hy.ty T, (by unfold PySem.W.notFirst; rw [beq_self_eq_true, Bool.true_or]), g, .ref g2, q, r, rfl, hx, .inl ⟨g2, q2, r2, rfl, hy, _, rfl, k⟩⟩
def spRangeR (K : PySem.W.Frag) : Sp := fun vs H Q _ => ∃ (p a c l l2 : Addr) (q r : Rat) (xs ys : List V), vs = [.ref p, .ref a, .ref c, .ref l, .ref l2] ∧ Rng H p ∧ PartAt H a q ∧ PartAt H c r ∧ Sz 200 q ∧ Sz 200 r ∧ rBelow r q = false ∧ H l = some (.lst xs) ∧ l ≠ p ∧ xs.length ≤ 90 ∧ MarksL H xs ∧ H l2 = some (.lst ys) ∧ l2 ≠ p ∧ ys.length ≤ 90 ∧ PartsL H ys ∧ ∀ H', Same (off H p) H' → Rng H' p → Q (.bl true) H'
abbrev nRange : List Str := ["_law_rng_here", "_law_low", "_law_high", "_law_marks", "_law_parts", "_law_made", "_law_mark_here", "_law_is_inner", "_law_outer", "_law_due", "_law_handed_here", "_law_far", "_law_some", "_law_fits", "_law_part", "_law_shown", "_law_further"]
theorem scRange : FnScope nRange ["_law_rng_here", "_law_low", "_law_high", "_law_marks", "_law_parts"] (defScope sRangeR) := ⟨rfl, rfl, rfl, by decide +kernel, rfl, by decide +kernel, by decide +kernel⟩
theorem ok_range {f : Addr} {fd : FuncData} (F : Fun K "_law_range_right" "_law_range_right" sRangeR f fd) (X : LG P w K mg base) : FnG P w K mg base CX0 11 f fd ["_law_rng_here", "_law_low", "_law_high", "_law_marks", "_law_parts"] (spRangeR K) := by
  have W := X.W
  obtain ⟨fG, fdG, MG, GG, bG⟩ := W.mG
  obtain ⟨fN, fdN, mN, GN, bN⟩ := W.inner
  obtain ⟨fF, fdF, mF, GF, bF⟩ := W.fit
  obtain ⟨fX, fdX, mX, GX, bX⟩ := X.has
  obtain ⟨fO, fdO, mO, GO, bO⟩ := X.outer
  obtain ⟨fc, mc, Gc⟩ := X.holds
  obtain ⟨fQ, oQ, GQ⟩ := X.eq
  obtain ⟨fRp, BG, GGr⟩ := X.rep
  obtain ⟨p1, g1, fd1, P1, G1, b1⟩ := X.gLow
  obtain ⟨p2, g2, fd2, P2, G2, b2⟩ := X.gHigh
  obtain ⟨fS, fdS, GS, gS, bS, kS⟩ := W.sm
  obtain ⟨fA, fdA, GA, gA, bA, kA⟩ := W.V.ah
  obtain ⟨fH, fdH, GH, gH, bH, kH⟩ := W.V.hd
  obtain ⟨fR, fdR, GR, gR, bR, kR⟩ := W.V.rl
  obtain ⟨fL, fdL, GL, gL, bL, kL⟩ := X.ls
  obtain ⟨fI, fdI, GI, gI, bI, kI⟩ := W.V.is
  obtain ⟨fC, fdC, GC, gC, bC, kC⟩ := W.isC
  obtain ⟨fW, fdW, GW, gW, bW, kW⟩ := X.wd
  obtain ⟨fRi, fdRi, dd, MR, GRi, vd, bRi, bR2⟩ := W.V.Z.L.C.J.I.R.G.mR
  have T := W.V.Z.L.T
  have TR := W.V.Z.L.C.J.I.R.G.T
  have M := W.V.Z.D.F
  have S := W.V.Z.S
  refine Fun.okG F scRange (fun vs H Q E h => ?_) (fun cdv A outer s H vs Q E gd hr h => ?_)
  · obtain ⟨p, a, c, l, l2, q, r, xs, ys, rfl, _⟩ := h
    rfl
  · obtain ⟨p, a, c, l, l2, q, r, xs, ys, rfl, R, ha, hc, sq, sr, le, hl, lp, lx, mk, hl2, lp2, ly, pt, k⟩ := h
    have hu := hr.units
    have r1 : Room 1 _ := hr.mono (by decide)
    have r2 : Room 2 _ := hr.mono (by decide)
    have r3 : Room 3 _ := hr.mono (by decide)
    have r4 : Room 4 _ := hr.mono (by decide)
    have r5 : Room 5 _ := hr.mono (by decide)
    have r6 : Room 6 _ := hr.mono (by decide)
    have r7 : Room 7 _ := hr.mono (by decide)
    have r8 : Room 8 _ := hr.mono (by decide)
    have r9 : Room 9 _ := hr.mono (by decide)
    have r10 : Room 10 _ := hr.mono (by decide)
    refine ⟨_, pss_cons (ps_set (i := 5) scRange.nd rfl (Or.inl rfl) (pe_make MG GG r7 rfl T.gG bG .nil pass0 (pa_cons (pe_call GR r4 rfl gR kR bR .nil pass0 (pa_cons (pv 0) (pa_cons (pv 1) pa_nil))) (pa_cons (pe_call GR r4 rfl gR kR bR .nil pass0 (pa_cons (pv 0) (pa_cons (pv 2) pa_nil))) pa_nil)))) (pss_cons (ps_if (PW.pt (pw_or (pt_not (pt_val (pe_callG GI gd r3 rfl gI kI bI .nil pass0 (pa_cons (pe_prop (pv 5) T.cl P1 G1 r2 b1 .nil pass0 rfl) (pa_cons (pv 1) pa_nil))))) (pw_or1 (pt_not (pt_val (pe_callG GI gd r3 rfl gI kI bI .nil pass0 (pa_cons (pe_prop (pv 5) T.cl P2 G2 r2 b2 .nil pass0 rfl) (pa_cons (pv 2) pa_nil)))))))) (pss_one (ps_ret pe_bl)) pss_nil) (pss_cons (ps_if (pt_cmpR (op_neD hu) (pe_lst (pa_cons (pe_callG GC gd r4 rfl gC kC bC .nil pass0 (pa_cons (pe_ix ix_tup (pe_meth0 (pv 5) T.cl mO GO r1 bO .nil pass0) pe_int (fun _ _ => rfl)) (pa_cons (pe_tup (pa_cons (pv 1) (pa_cons pe_bl pa_nil))) pa_nil))) (pa_cons (pe_callG GC gd r4 rfl gC kC bC .nil pass0 (pa_cons (pe_ix ix_tup (pe_meth0 (pv 5) T.cl mO GO r1 bO .nil pass0) pe_int (fun _ _ => rfl)) (pa_cons (pe_tup (pa_cons (pv 2) (pa_cons pe_bl pa_nil))) pa_nil))) pa_nil))) (pe_lst (pa_cons pe_bl (pa_cons pe_bl pa_nil))) (nomark _)) (pss_one (ps_ret pe_bl)) pss_nil) (pss_cons (ps_for PassesOwn.never rfl (pi_list (pe_op op_cat (pv 3) (pe_lst (pa_cons (pe_tup (pa_cons (pv 1) (pa_cons pe_bl pa_nil))) (pa_cons (pe_tup (pa_cons (pv 1) (pa_cons pe_bl pa_nil))) (pa_cons (pe_tup (pa_cons (pv 2) (pa_cons pe_bl pa_nil))) (pa_cons (pe_tup (pa_cons (pv 2) (pa_cons pe_bl pa_nil))) pa_nil))))))) (pg_name (i := 6) scRange.nd rfl (Or.inl rfl)) (pss_cons (ps_set (i := 7) scRange.nd rfl (Or.inl rfl) (pe_and (pe_call GA r2 rfl gA kA bA .nil pass0 (pa_cons (pe_tup (pa_cons (pv 1) (pa_cons pe_bl pa_nil))) (pa_cons (pv 6) pa_nil))) (pe_one (pe_call GA r2 rfl gA kA bA .nil pass0 (pa_cons (pv 6) (pa_cons (pe_tup (pa_cons (pv 2) (pa_cons pe_bl pa_nil))) pa_nil)))))) (pss_cons (ps_set (i := 8) scRange.nd rfl (Or.inl rfl) (pe_ifExp (pt_val (pe_call GA r2 rfl gA kA bA .nil pass0 (pa_cons (pe_tup (pa_cons (pv 1) (pa_cons pe_bl pa_nil))) (pa_cons (pv 6) pa_nil)))) (pe_tup (pa_cons (pv 2) (pa_cons pe_bl pa_nil))) (pe_tup (pa_cons (pv 1) (pa_cons pe_bl pa_nil))))) (pss_cons (ps_set (i := 9) scRange.nd rfl (Or.inl rfl) (pe_ifExp (pt_val (pv 7)) (pv 6) (pv 8))) (pss_cons (ps_set (i := 10) scRange.nd rfl (Or.inl rfl) (pe_call GH r5 rfl gH kH bH .nil pass0 (pa_cons (pv 0) (pa_cons (pv 6) pa_nil)))) (pss_cons (ps_if (PW.pt (pw_or (pt_cmpR op_ne (pe_meth (pv 5) T.cl mN GN r8 bN .nil pass0 (pa_cons (pv 10) pa_nil)) (pv 7) (nomark _)) (pw_or1 (pt_not (pt_val (pe_callG GC gd r4 rfl gC kC bC .nil pass0 (pa_cons (pe_meth (pv 5) T.cl mF GF r9 bF .nil pass0 (pa_cons (pv 10) pa_nil)) (pa_cons (pv 9) pa_nil)))))))) (pss_one (ps_ret pe_bl)) pss_nil) (pss_one (ps_for PassesOwn.never rfl (pi_list (pe_op op_cat (pv 3) (pe_lst (pa_cons (pe_tup (pa_cons (pv 2) (pa_cons pe_bl pa_nil))) pa_nil)))) (pg_name (i := 11) scRange.nd rfl (Or.inl rfl)) (pss_cons (ps_set (i := 12) scRange.nd rfl (Or.inl rfl) (pe_tup (pa_cons (pv 10) (pa_cons (pe_call GH r5 rfl gH kH bH .nil pass0 (pa_cons (pv 0) (pa_cons (pv 11) pa_nil))) pa_nil)))) (pss_cons (ps_set (i := 13) scRange.nd rfl (Or.inl rfl) (pe_and (pe_call GA r2 rfl gA kA bA .nil pass0 (pa_cons (pv 6) (pa_cons (pv 11) pa_nil))) (pe_and (pe_not (pe_call GA r2 rfl gA kA bA .nil pass0 (pa_cons (pv 6) (pa_cons (pe_tup (pa_cons (pv 1) (pa_cons pe_bl pa_nil))) pa_nil)))) (pe_one (pe_not (pe_call GA r2 rfl gA kA bA .nil pass0 (pa_cons (pe_tup (pa_cons (pv 2) (pa_cons pe_bl pa_nil))) (pa_cons (pv 11) pa_nil)))))))) (pss_one (ps_if (pt_cmpR op_ne (pe_meth (pv 5) T.cl mX GX r9 bX .nil pass0 (pa_cons (pv 12) pa_nil)) (pv 13) (nomark _)) (pss_one (ps_ret pe_bl)) pss_nil)))))))))))) (pss_cons (ps_if (pt_not (pt_val (pe_callG GW gd r10 rfl gW kW bW .nil pass0 (pa_cons (pv 0) (pa_cons (pv 5) (pa_cons (pv 1) (pa_cons (pv 2) (pa_cons (pv 3) pa_nil)))))))) (pss_one (ps_ret pe_bl)) pss_nil) (pss_cons (ps_for PassesOwn.never rfl (pi_list (pe_op op_cat (pv 4) (pe_lst (pa_cons (pv 1) (pa_cons (pv 2) pa_nil))))) (pg_name (i := 14) scRange.nd rfl (Or.inl rfl)) (pss_one (ps_if (pt_cmpR op_ne (pe_cmpR (op_inO mc Gc r6 pass0) (pe_call GR r4 rfl gR kR bR .nil pass0 (pa_cons (pv 0) (pa_cons (pv 14) pa_nil))) (pv 5) (by with_unfolding_all rfl)) (pe_and (pe_not (pe_call GL r1 rfl gL kL bL .nil pass0 (pa_cons (pv 14) (pa_cons (pv 1) pa_nil)))) (pe_one (pe_not (pe_call GL r1 rfl gL kL bL .nil pass0 (pa_cons (pv 2) (pa_cons (pv 14) pa_nil)))))) (nomark _)) (pss_one (ps_ret pe_bl)) pss_nil))) (pss_cons (ps_if (PW.pt (pw_or (pt_cmpR (op_neO oQ GQ r3 pass0) (pv 5) (pe_make MG GG r7 rfl T.gG bG .nil pass0 (pa_cons (pe_make MR GRi r3 rfl TR.gR bR2 .nil pass0 (pa_cons (pe_ix ix_tup (pv 1) pe_int (fun _ _ => rfl)) (pa_cons (pe_ix ix_tup (pv 1) pe_int (fun _ _ => rfl)) pa_nil))) (pa_cons (pe_make MR GRi r3 rfl TR.gR bR2 .nil pass0 (pa_cons (pe_ix ix_tup (pv 2) pe_int (fun _ _ => rfl)) (pa_cons (pe_ix ix_tup (pv 2) pe_int (fun _ _ => rfl)) pa_nil))) pa_nil))) (nomark _)) (pw_or (pt_cmpR (op_eqO oQ GQ r2 pass0) (pv 5) (pe_tup (pa_cons (pv 1) (pa_cons (pv 2) pa_nil))) (nomark _)) (pw_or1 (pt_cmpR (op_eqO oQ GQ r2 pass0) (pv 5) (pe_meth0 (pv 5) T.cl mO GO r1 bO .nil pass0) (nomark _)))))) (pss_one (ps_ret pe_bl)) pss_nil) (pss_cons (ps_set (i := 15) scRange.nd rfl (Or.inl rfl) (pe_op op_add_str (pe_op op_add_str (pe_op op_add_str (pe_op op_add_str pe_str (pe_callB (call_repZ S W.V.RR gd (roomH r4)) (by rfl) M.repr (by decide +kernel) (pa_cons (pe_make MR GRi r3 rfl TR.gR bR2 .nil pass0 (pa_cons (pe_ix ix_tup (pv 1) pe_int (fun _ _ => rfl)) (pa_cons (pe_ix ix_tup (pv 1) pe_int (fun _ _ => rfl)) pa_nil))) pa_nil))) pe_str) (pe_callB (call_repZ S W.V.RR gd (roomH r4)) (by rfl) M.repr (by decide +kernel) (pa_cons (pe_make MR GRi r3 rfl TR.gR bR2 .nil pass0 (pa_cons (pe_ix ix_tup (pv 2) pe_int (fun _ _ => rfl)) (pa_cons (pe_ix ix_tup (pv 2) pe_int (fun _ _ => rfl)) pa_nil))) pa_nil))) pe_str)) (pss_cons (ps_set (i := 16) scRange.nd rfl (Or.inl rfl) (pe_call GS r2 rfl gS kS bS .nil pass0 (pa_cons (pv 2) (pa_cons (pe_tup (pa_cons pe_int (pa_cons pe_int pa_nil))) pa_nil)))) (pss_one (ps_ret (pe_and (pe_cmpR op_eq (pe_callB (call_reprO BG GGr r4 pass0) (by rfl) M.repr (by decide +kernel) (pa_cons (pv 5) pa_nil)) (pv 15) (nomark _)) (pe_one (pe_cmpR (op_neO oQ GQ r3 pass0) (pv 5) (pe_make MG GG r7 rfl T.gG bG .nil pass0 (pa_cons (pe_prop (pv 5) T.cl P1 G1 r2 b1 .nil pass0 rfl) (pa_cons (pe_make MR GRi r3 rfl TR.gR bR2 .nil pass0 (pa_cons (pe_ix ix_tup (pv 16) pe_int (fun _ _ => rfl)) (pa_cons (pe_ix ix_tup (pv 16) pe_int (fun _ _ => rfl)) pa_nil))) pa_nil))) (nomark _)))))))))))))), ?_⟩
    have sq1 : Sz 1000 q := sq.mono (by decide)
    have sr1 : Sz 1000 r := sr.mono (by decide)
    have sq9 : Sz 100000 q := sq.mono (by decide)
    have sr9 : Sz 100000 r := sr.mono (by decide)
    have sq19 : Sz 1900 q := sq.mono (by decide)
    have sr19 : Sz 1900 r := sr.mono (by decide)
    refine ⟨_, rfl, _, rfl, p, a, q, rfl, R, ha, sq1, fun x1 H1 k1 R1 h1 => ?_⟩
    refine ⟨_, rfl, _, rfl, p, c, r, rfl, R1, (hc.offR R).same k1, sr1, fun x2 H2 k2 R2 h2 => ?_⟩
    intro g dg ng ngd neg
    refine made_rngR ng ngd neg ((h1.offR R1).same k2) h2 sq9 sr9 le fun H3 k3 hg0 => ⟨rfl, ?_⟩
    obtain ⟨B, hB⟩ : ∃ B : Hp → Prop, ∀ G, B G ↔ (Same (off H p) G ∧ Rng G p ∧ RngAt K G g q r) := ⟨_, fun _ => Iff.rfl⟩
    have b3 : B H3 := (hB _).mpr ⟨fun y o e => k3 y o (off_off k1 k2 y o e), R2.same k3, hg0⟩
    have stS : ∀ {G G' : Hp}, B G → Same G G' → B G' := by
      intro G G' x s
      obtain ⟨x1, x2, x3⟩ := (hB _).mp x
      exact (hB _).mpr ⟨fun y o e => s y o (x1 y o e), x2.same s, x3.same s⟩
    have stO : ∀ {G G' : Hp}, B G → Same (off G p) G' → Rng G' p → B G' := by
      intro G G' x s R'
      obtain ⟨x1, x2, x3⟩ := (hB _).mp x
      exact (hB _).mpr ⟨off_off x1 s, R', (x3.offR x2).same s⟩
    have kk_ : ∀ {G : Hp}, B G → Same (off H p) G := fun x => ((hB _).mp x).1
    have R_ : ∀ {G : Hp}, B G → Rng G p := fun x => ((hB _).mp x).2.1
    have g_ : ∀ {G : Hp}, B G → RngAt K G g q r := fun x => ((hB _).mp x).2.2
    have a_ : ∀ {G : Hp}, B G → PartAt G a q := fun x => (ha.offR R).same (kk_ x)
    have c_ : ∀ {G : Hp}, B G → PartAt G c r := fun x => (hc.offR R).same (kk_ x)
    have l_ : ∀ {G : Hp}, B G → G l = some (.lst xs) := fun x => kk_ x l _ (by rw [off_ne lp]; exact hl)
    have l2_ : ∀ {G : Hp}, B G → G l2 = some (.lst ys) := fun x => kk_ x l2 _ (by rw [off_ne lp2]; exact hl2)
    have m_ : ∀ {G : Hp}, B G → MarksL G xs := fun x => (mk.offR R).same (kk_ x)
    have p_ : ∀ {G : Hp}, B G → PartsL G ys := fun x => (pt.offR R).same (kk_ x)
    have lo_ : ∀ {G : Hp} {t : Addr}, B G → G t = none → B (upd G t (.tup [V.ref a, .bl false])) ∧ MarkAt (upd G t (.tup [V.ref a, .bl false])) t q false := fun {G t} x n => ⟨stS x (same_new n), a, upd_same, (a_ x).same (same_new n)⟩
    have hi_ : ∀ {G : Hp} {t : Addr}, B G → G t = none → B (upd G t (.tup [V.ref c, .bl true])) ∧ MarkAt (upd G t (.tup [V.ref c, .bl true])) t r true := fun {G t} x n => ⟨stS x (same_new n), c, upd_same, (c_ x).same (same_new n)⟩
    have at_ : ∀ {G : Hp}, B G → ∃ dx fs, G g = some (.ins (aG K) dx fs) ∧ ∀ m : Str, m ≠ "_low" → m ≠ "_high" → fs.lookup m = none := by
      intro G x
      obtain ⟨_, dx, a', b', e, _⟩ := g_ x
      refine ⟨dx, _, e, fun m n1 n2 => ?_⟩
      rw [List.lookup_cons, beq_false_of_ne n1, List.lookup_cons, beq_false_of_ne n2]
      rfl
    clear hg0 k3 ng ngd neg k2 R2 h2 k1 R1 h1
    -- low and high
    obtain ⟨dx3, fs3, es3, lf3⟩ := at_ b3
    refine ⟨_, rfl, g, dx3, _, rfl, es3, g, _, _, rfl, g_ b3, fun o1 ho1 => ?_⟩
    refine ⟨_, rfl, o1, a, q, rfl, ho1, a_ b3, sq19, fun H4 k4 => ⟨true, rfl, iteF ?_⟩⟩
    have b4 := stS b3 k4
    obtain ⟨dx4, fs4, es4, lf4⟩ := at_ b4
    refine ⟨_, rfl, g, dx4, _, rfl, es4, g, _, _, rfl, g_ b4, fun o2 ho2 => ?_⟩
    refine ⟨_, rfl, o2, c, r, rfl, ho2, c_ b4, sr19, fun H5 k5 => ⟨true, rfl, iteF ?_⟩⟩
    have b5 := stS b4 k5
    clear b3 b4 k4 k5 es3 es4 lf3 lf4 ho1 ho2
    -- the outer cuts
    obtain ⟨dx5, fs5, es5, lf5⟩ := at_ b5
    refine ⟨_, rfl, g, dx5, _, rfl, es5, lf5 _ (by decide) (by decide), g, q, r, rfl, g_ b5, fun t c1 c2 H6 k6 ht hc1 hc2 => ?_⟩
    have b6 := stS b5 k6
    refine ⟨t, _, _, _, rfl, rfl, SqT.of ht, rfl, _, rfl, (by show 2 ≤ sizeLine; decide), fun m1 n1 => ?_⟩
    obtain ⟨b7, hm1⟩ := lo_ b6 n1
    refine ⟨c1, m1, q, false, rfl, hc1.same (same_new n1), hm1, sq19, fun H8 k8 => ?_⟩
    have b8 := stS b7 k8
    obtain ⟨dx8, fs8, es8, lf8⟩ := at_ b8
    refine ⟨_, rfl, g, dx8, _, rfl, es8, lf8 _ (by decide) (by decide), g, q, r, rfl, g_ b8, fun t' c1' c2' H9 k9 ht' hc1' hc2' => ?_⟩
    have b9 := stS b8 k9
    refine ⟨t', _, _, _, rfl, rfl, SqT.of ht', rfl, _, rfl, (by show 2 ≤ sizeLine; decide), fun m2 n2 => ?_⟩
    obtain ⟨b10, hm2⟩ := hi_ b9 n2
    refine ⟨c2', m2, r, true, rfl, hc2'.same (same_new n2), hm2, sr19, fun H11 k11 => ⟨(by show 2 ≤ sizeLine; decide), fun la nla => ⟨(by show 2 ≤ sizeLine; decide), fun lb nlb => ?_⟩⟩⟩
    have b11 := stS b10 k11
    have ula := same_new (o := .lst [V.bl true, .bl true]) nla
    have fla : upd H11 la (.lst [V.bl true, .bl true]) la = some (.lst [V.bl true, .bl true]) := upd_same
    have b12 := stS b11 ula
    generalize upd H11 la (.lst [V.bl true, .bl true]) = H12 at *
    have b13 := stS b12 (same_new (o := .lst [V.bl true, .bl true]) nlb)
    have dl : ∀ {G : Hp} {l : Addr}, G l = some (.lst [V.bl true, .bl true]) → Dp K G (.ref l) (.list [.bool true, .bool true]) := fun e => .lst (SqL.of e) (.cons (.bl true) (.cons (.bl true) .nil))
    refine ⟨_, _, dl (same_new (o := .lst [V.bl true, .bl true]) nlb _ _ fla), dl upd_same, by decide +kernel, by decide +kernel, _, rfl, ?_⟩
    refine ite2 (fun z => absurd z (by decide +kernel)) (fun _ => ?_)
    generalize upd H12 lb (.lst [V.bl true, .bl true]) = H13 at *
    clear b5 b6 b7 b8 b9 b10 b11 b12 k6 k8 k9 k11 n1 n2 nla nlb ula fla ht hc1 hc2 ht' hc1' hc2' hm1 hm2 es5 es8 lf5 lf8
    -- the cuts
    refine ⟨_, rfl, _, rfl, (by show 2 ≤ sizeLine; decide), fun m1 n1 => ?_⟩
    obtain ⟨b14, hm1⟩ := lo_ b13 n1
    generalize upd H13 m1 (.tup [V.ref a, .bl false]) = H14 at *
    refine ⟨_, rfl, (by show 2 ≤ sizeLine; decide), fun m2 n2 => ?_⟩
    have um2 := same_new (o := .tup [V.ref a, .bl true]) n2
    have b15 := stS b14 um2
    have hm2 : MarkAt (upd H14 m2 (.tup [V.ref a, .bl true])) m2 q true := ⟨a, upd_same, a_ b15⟩
    replace hm1 := hm1.same um2
    generalize upd H14 m2 (.tup [V.ref a, .bl true]) = H15 at *
    refine ⟨_, rfl, (by show 2 ≤ sizeLine; decide), fun m3 n3 => ?_⟩
    have um3 := same_new (o := .tup [V.ref c, .bl false]) n3
    have b16 := stS b15 um3
    have hm3 : MarkAt (upd H15 m3 (.tup [V.ref c, .bl false])) m3 r false := ⟨c, upd_same, c_ b16⟩
    replace hm1 := hm1.same um3
    replace hm2 := hm2.same um3
    generalize upd H15 m3 (.tup [V.ref c, .bl false]) = H16 at *
    refine ⟨_, rfl, (by show 2 ≤ sizeLine; decide), fun m4 n4 => ?_⟩
    obtain ⟨b17, hm4⟩ := hi_ b16 n4
    have um4 := same_new (o := .tup [V.ref c, .bl true]) n4
    replace hm1 := hm1.same um4
    replace hm2 := hm2.same um4
    replace hm3 := hm3.same um4
    generalize upd H16 m4 (.tup [V.ref c, .bl true]) = H17 at *
    refine ⟨(by show 4 ≤ sizeLine; decide), fun lm nlm => ?_⟩
    have ulm := same_new (o := .lst [V.ref m1, .ref m2, .ref m3, .ref m4]) nlm
    have flm : upd H17 lm (.lst [V.ref m1, .ref m2, .ref m3, .ref m4]) lm = some (.lst [V.ref m1, .ref m2, .ref m3, .ref m4]) := upd_same
    have b18 := stS b17 ulm
    generalize upd H17 lm (.lst [V.ref m1, .ref m2, .ref m3, .ref m4]) = H18 at *
    refine ⟨l, lm, _, _, rfl, rfl, l_ b18, flm, (by first | (show (xs ++ [V.ref m1, .ref m2, .ref m3, .ref m4]).length ≤ sizeLine; rw [List.length_append, sizeLine_eq]; simp; omega) | (rw [sizeLine_eq]; simp; omega)), fun l3 n3' => ?_⟩
    have ul3 := same_new (o := .lst (xs ++ [V.ref m1, .ref m2, .ref m3, .ref m4])) n3'
    have fl3 : upd H18 l3 (.lst (xs ++ [V.ref m1, .ref m2, .ref m3, .ref m4])) l3 = some (.lst (xs ++ [V.ref m1, .ref m2, .ref m3, .ref m4])) := upd_same
    have l3p := (R_ b18).ne_new n3'
    have b19 := stS b18 ul3
    have us := ulm.trans ul3
    have mm : MarksL (upd H18 l3 (.lst (xs ++ [V.ref m1, .ref m2, .ref m3, .ref m4]))) (xs ++ [V.ref m1, .ref m2, .ref m3, .ref m4]) := by
      intro v hv
      rcases List.mem_append.mp hv with hv | hv
      · exact (m_ b19) v hv
      · simp only [List.mem_cons, List.not_mem_nil, or_false] at hv
        rcases hv with rfl | rfl | rfl | rfl
        · exact ⟨m1, q, false, rfl, hm1.same us, sq⟩
        · exact ⟨m2, q, true, rfl, hm2.same us, sq⟩
        · exact ⟨m3, r, false, rfl, hm3.same us, sr⟩
        · exact ⟨m4, r, true, rfl, hm4.same us, sr⟩
    generalize upd H18 l3 (.lst (xs ++ [V.ref m1, .ref m2, .ref m3, .ref m4])) = H19 at *
    clear b13 b14 b15 b16 b17 b18 um2 um3 um4 ulm ul3 us flm hm1 hm2 hm3 hm4 n1 n2 n3 n4 nlm n3'
    refine ⟨l3, rfl, ⟨_, SqL.of fl3⟩, ?_⟩
    refine for_list (K := K) (a := l3) (xs := xs ++ [V.ref m1, .ref m2, .ref m3, .ref m4]) (fun i z G => B G ∧ Same (off H19 p) G ∧ ∃ v6 v7 v8 v9 v10 v11 v12 v13 v14 v15 v16, z = [some (.ref p), some (.ref a), some (.ref c), some (.ref l), some (.ref l2), some (.ref g), v6, v7, v8, v9, v10, v11, v12, v13, v14, v15, v16]) ?_ ?_ ?_ ?_
    · exact ⟨b19, rng_off, none, none, none, none, none, none, none, none, none, none, none, rfl⟩
    · rintro i z G _ ⟨_, kG, _⟩
      exact SqL.of (kG l3 _ (by rw [off_ne l3p]; exact fl3))
    · rintro i y z G hy ⟨bG, kG, v6, v7, v8, v9, v10, v11, v12, v13, v14, v15, v16, rfl⟩
      obtain ⟨mt, x, b, rfl, hmk0, sx⟩ := ((mm.offR (R_ b19)).same kG) y (List.mem_of_getElem? hy)
      have sx1 : Sz 1000 x := sx.mono (by decide)
      have sx9 : Sz 100000 x := sx.mono (by decide)
      -- C: as B, and the cut stands
      obtain ⟨C, hC⟩ : ∃ C : Hp → Prop, ∀ G', C G' ↔ (B G' ∧ MarkAt G' mt x b ∧ Same (off H19 p) G') := ⟨_, fun _ => Iff.rfl⟩
      have cS : ∀ {G G' : Hp}, C G → Same G G' → C G' := by
        intro G G' x s
        obtain ⟨x1, x2, x3⟩ := (hC _).mp x
        exact (hC _).mpr ⟨stS x1 s, x2.same s, fun y o e => s y o (x3 y o e)⟩
      have cO : ∀ {G G' : Hp}, C G → Same (off G p) G' → Rng G' p → C G' := by
        intro G G' x s R'
        obtain ⟨x1, x2, x3⟩ := (hC _).mp x
        exact (hC _).mpr ⟨stO x1 s R', (x2.offR (R_ x1)).same s, off_off x3 s⟩
      have cB : ∀ {G : Hp}, C G → B G := fun x => ((hC _).mp x).1
      have cM : ∀ {G : Hp}, C G → MarkAt G mt x b := fun x => ((hC _).mp x).2.1
      have cLo : ∀ {G : Hp} {t : Addr}, C G → G t = none → C (upd G t (.tup [V.ref a, .bl false])) ∧ MarkAt (upd G t (.tup [V.ref a, .bl false])) t q false := fun x n => ⟨cS x (same_new n), (lo_ (cB x) n).2⟩
      have cHi : ∀ {G : Hp} {t : Addr}, C G → G t = none → C (upd G t (.tup [V.ref c, .bl true])) ∧ MarkAt (upd G t (.tup [V.ref c, .bl true])) t r true := fun x n => ⟨cS x (same_new n), (hi_ (cB x) n).2⟩
      have w0 : C G := (hC _).mpr ⟨bG, hmk0, kG⟩
      clear hmk0 kG bG
      refine ⟨_, rfl, (by show 2 ≤ sizeLine; decide), fun t1 n1 => ?_⟩
      obtain ⟨w1, e1⟩ := cLo w0 n1
      generalize upd G t1 (.tup [V.ref a, .bl false]) = G1 at *
      refine ⟨_, rfl, t1, mt, q, x, false, b, rfl, e1, cM w1, sq1, sx1, ⟨_, rfl, ?_⟩⟩
      cases hA : cAhead q false x b with
      | false =>
        refine iteF ?_
        refine ⟨_, rfl, (by show 2 ≤ sizeLine; decide), fun t2 n2 => ?_⟩
        obtain ⟨w2, e2⟩ := cLo w1 n2
        generalize upd G1 t2 (.tup [V.ref a, .bl false]) = G2 at *
        refine ⟨_, rfl, t2, mt, q, x, false, b, rfl, e2, cM w2, sq1, sx1, ⟨_, rfl, ?_⟩⟩
        rw [hA]
        refine iteF ⟨_, rfl, (by show 2 ≤ sizeLine; decide), fun t3 n3 => ?_⟩
        obtain ⟨w3, e3⟩ := cLo w2 n3
        generalize upd G2 t3 (.tup [V.ref a, .bl false]) = G3 at *
        refine ⟨_, rfl, _, rfl, iteF ⟨_, rfl, ?_⟩⟩
        refine ⟨_, rfl, _, rfl, p, mt, x, b, rfl, R_ (cB w3), cM w3, sx1, fun ch H4 k4 R4 hch => ?_⟩
        have w4 := cO w3 k4 R4
        have eD := (e3.offR (R_ (cB w3))).same k4
        have cIn : cInner q r x b = false := by rw [cInner_eq, hA]; rfl
        have cQ : cFitQ q r x b = q := by unfold cFitQ; rw [cIn, hA]; rfl
        have cBt : cFitB q r x b = false := by unfold cFitB; rw [cIn, hA]; rfl
        obtain ⟨dx, fs, es, lf⟩ := at_ (cB w4)
        refine ⟨_, rfl, g, dx, _, rfl, es, lf _ (by decide) (by decide), _, rfl, g, .ref ch, q, r, x, b, rfl, g_ (cB w4), hch, sq9, sr9, sx9, fun H5 k5 => ⟨_, rfl, ?_⟩⟩
        rw [cIn]
        refine ⟨rfl, _, rfl, ite2 (fun z => absurd z (by decide)) (fun _ => ?_)⟩
        have w5 := cS w4 k5
        obtain ⟨dx, fs, es, lf⟩ := at_ (cB w5)
        refine ⟨_, rfl, g, dx, _, rfl, es, lf _ (by decide) (by decide), _, rfl, g, .ref ch, q, r, x, b, rfl, g_ (cB w5), hch.same k5, sq9, sr9, sx9, fun cf H6 k6 hcf => ?_⟩
        rw [cQ, cBt] at hcf
        refine ⟨_, rfl, cf, t3, q, false, rfl, hcf, (eD.same k5).same k6, sq19, fun H7 k7 => ⟨true, rfl, iteF ?_⟩⟩
        have w7 := cS w5 (k6.trans k7)
        have hch7 := hch.same (k5.trans (k6.trans k7))
        refine ⟨_, rfl, _, rfl, (by show 2 ≤ sizeLine; decide), fun m5 n5 => ?_⟩
        obtain ⟨w8, hm5⟩ := cHi w7 n5
        have um5 := same_new (o := .tup [V.ref c, .bl true]) n5
        replace hch7 := hch7.same um5
        generalize upd H7 m5 (.tup [V.ref c, .bl true]) = H8 at *
        refine ⟨(by show 1 ≤ sizeLine; decide), fun lf1 nlf1 => ?_⟩
        have ulf := same_new (o := .lst [V.ref m5]) nlf1
        have flf : upd H8 lf1 (.lst [V.ref m5]) lf1 = some (.lst [V.ref m5]) := upd_same
        have w9 := cS w8 ulf
        replace hch7 := hch7.same ulf
        replace hm5 := hm5.same ulf
        generalize upd H8 lf1 (.lst [V.ref m5]) = H9 at *
        refine ⟨l, lf1, _, _, rfl, rfl, l_ (cB w9), flf, (by first | (show (xs ++ [V.ref m5]).length ≤ sizeLine; rw [List.length_append, sizeLine_eq]; simp; omega) | (rw [sizeLine_eq]; simp; omega)), fun l4 n4' => ?_⟩
        have ul4 := same_new (o := .lst (xs ++ [V.ref m5])) n4'
        have fl4 : upd H9 l4 (.lst (xs ++ [V.ref m5])) l4 = some (.lst (xs ++ [V.ref m5])) := upd_same
        have l4p := (R_ (cB w9)).ne_new n4'
        have w10 := cS w9 ul4
        replace hch7 := hch7.same ul4
        have mm4 : MarksL (upd H9 l4 (.lst (xs ++ [V.ref m5]))) (xs ++ [V.ref m5]) := by
          intro v hv
          rcases List.mem_append.mp hv with hv | hv
          · exact (m_ (cB w10)) v hv
          · rw [List.mem_singleton.mp hv]
            exact ⟨m5, r, true, rfl, hm5.same ul4, sr⟩
        generalize upd H9 l4 (.lst (xs ++ [V.ref m5])) = H10 at *
        refine ⟨l4, rfl, ⟨_, SqL.of fl4⟩, ?_⟩
        refine for_list (K := K) (a := l4) (xs := xs ++ [V.ref m5]) (fun i z G' => C G' ∧ Same (off H10 p) G' ∧ ∃ v7 v8 v9 v11 v12 v13 v14 v15 v16, z = [some (.ref p), some (.ref a), some (.ref c), some (.ref l), some (.ref l2), some (.ref g), some (.ref mt), v7, v8, v9, some (.ref ch), v11, v12, v13, v14, v15, v16]) ?_ ?_ ?_ ?_
        · exact ⟨w10, rng_off, _, _, _, _, _, _, _, _, _, rfl⟩
        · rintro i z G' _ ⟨_, kG, _⟩
          exact SqL.of (kG l4 _ (by rw [off_ne l4p]; exact fl4))
        · rintro j y z G' hy' ⟨wG, kG, v7, v8, v9, v11, v12, v13, v14, v15, v16, rfl⟩
          obtain ⟨mf, xf, bf, rfl, hmf, sxf⟩ := ((mm4.offR (R_ (cB w10))).same kG) y (List.mem_of_getElem? hy')
          have hchG := (hch7.offR (R_ (cB w10))).same kG
          have sf1 : Sz 1000 xf := sxf.mono (by decide)
          have sf9 : Sz 100000 xf := sxf.mono (by decide)
          refine ⟨_, rfl, _, rfl, _, rfl, p, mf, xf, bf, rfl, R_ (cB wG), hmf, sf1, fun cf2 H11 k11 R11 hcf2 => ⟨(by show 2 ≤ sizeLine; decide), fun ts nts => ?_⟩⟩
          have w11 := cO wG k11 R11
          have uts := same_new (o := .tup [V.ref ch, .ref cf2]) nts
          have w12 := cS w11 uts
          have pair : PairAt K (upd H11 ts (.tup [V.ref ch, .ref cf2])) (.ref ts) x b xf bf := ⟨ts, _, _, rfl, upd_same, ((hchG.offR (R_ (cB wG))).same k11).same uts, hcf2.same uts⟩
          have hmf2 := ((hmf.offR (R_ (cB wG))).same k11).same uts
          have k12 : Same (off H10 p) (upd H11 ts (.tup [V.ref ch, .ref cf2])) := (off_off kG k11).trans uts
          generalize upd H11 ts (.tup [V.ref ch, .ref cf2]) = H12 at *
          refine ⟨_, rfl, _, rfl, mt, mf, x, xf, b, bf, rfl, cM w12, hmf2, sx1, sf1, ⟨_, rfl, ?_⟩⟩
          cases h1 : cAhead x b xf bf with
          | false =>
            refine iteF ?_
            obtain ⟨dx, fs, es, lf⟩ := at_ (cB w12)
            refine ⟨_, rfl, g, dx, _, rfl, es, lf _ (by decide) (by decide), _, rfl, g, .ref ts, rfl, .inl ⟨q, r, x, xf, b, bf, g_ (cB w12), pair.same (fun _ _ z => z), sq9, sr9, sx9, sf9, fun H20 k20 => ⟨_, rfl, ?_⟩⟩⟩
            rw [show cHas q r x b xf bf = false by unfold cHas; rw [h1]; rfl]
            refine ⟨rfl, _, rfl, ite2 (fun z => absurd z (by decide)) (fun _ => ?_)⟩
            exact ⟨cS w12 k20, (k12.trans (fun _ _ z => z)).trans k20, _, _, _, _, _, _, _, _, _, rfl⟩
          | true =>
            refine iteT ⟨_, rfl, _, rfl, (by show 2 ≤ sizeLine; decide), fun t5 n5 => ?_⟩
            obtain ⟨w13, e5⟩ := cLo w12 n5
            have u5 := same_new (o := .tup [V.ref a, .bl false]) n5
            generalize upd H12 t5 (.tup [V.ref a, .bl false]) = H13 at *
            refine ⟨mt, t5, x, q, b, false, rfl, cM w13, e5, sx1, sq1, ⟨_, rfl, ?_⟩⟩
            cases h2 : cAhead x b q false with
            | true =>
              refine ⟨_, rfl, iteF ?_⟩
              obtain ⟨dx, fs, es, lf⟩ := at_ (cB w13)
              refine ⟨_, rfl, g, dx, _, rfl, es, lf _ (by decide) (by decide), _, rfl, g, .ref ts, rfl, .inl ⟨q, r, x, xf, b, bf, g_ (cB w13), pair.same u5, sq9, sr9, sx9, sf9, fun H20 k20 => ⟨_, rfl, ?_⟩⟩⟩
              rw [show cHas q r x b xf bf = false by unfold cHas; rw [h1, h2]; rfl]
              refine ⟨rfl, _, rfl, ite2 (fun z => absurd z (by decide)) (fun _ => ?_)⟩
              exact ⟨cS w13 k20, (k12.trans u5).trans k20, _, _, _, _, _, _, _, _, _, rfl⟩
            | false =>
              refine ⟨_, rfl, iteT ⟨_, rfl, (by show 2 ≤ sizeLine; decide), fun t6 n6 => ?_⟩⟩
              obtain ⟨w14, e6⟩ := cHi w13 n6
              have u6 := same_new (o := .tup [V.ref c, .bl true]) n6
              have u56 := u5.trans u6
              have hmf3 := hmf2.same u56
              generalize upd H13 t6 (.tup [V.ref c, .bl true]) = H14 at *
              refine ⟨_, rfl, t6, mf, r, xf, true, bf, rfl, e6, hmf3, sr1, sf1, ⟨_, rfl, ?_⟩⟩
              cases h3 : cAhead r true xf bf with
              | true =>
                obtain ⟨dx, fs, es, lf⟩ := at_ (cB w14)
                refine ⟨_, rfl, g, dx, _, rfl, es, lf _ (by decide) (by decide), _, rfl, g, .ref ts, rfl, .inl ⟨q, r, x, xf, b, bf, g_ (cB w14), pair.same u56, sq9, sr9, sx9, sf9, fun H20 k20 => ⟨_, rfl, ?_⟩⟩⟩
                rw [show cHas q r x b xf bf = false by unfold cHas; rw [h1, h2, h3]; rfl]
                refine ⟨rfl, _, rfl, ite2 (fun z => absurd z (by decide)) (fun _ => ?_)⟩
                exact ⟨cS w14 k20, (k12.trans u56).trans k20, _, _, _, _, _, _, _, _, _, rfl⟩
              | false =>
                obtain ⟨dx, fs, es, lf⟩ := at_ (cB w14)
                refine ⟨_, rfl, g, dx, _, rfl, es, lf _ (by decide) (by decide), _, rfl, g, .ref ts, rfl, .inl ⟨q, r, x, xf, b, bf, g_ (cB w14), pair.same u56, sq9, sr9, sx9, sf9, fun H20 k20 => ⟨_, rfl, ?_⟩⟩⟩
                rw [show cHas q r x b xf bf = true by unfold cHas; rw [h1, h2, h3]; rfl]
                refine ⟨rfl, _, rfl, ite2 (fun z => absurd z (by decide)) (fun _ => ?_)⟩
                exact ⟨cS w14 k20, (k12.trans u56).trans k20, _, _, _, _, _, _, _, _, _, rfl⟩
        · rintro z G' ⟨wG, kG, v7, v8, v9, v11, v12, v13, v14, v15, v16, rfl⟩
          exact ⟨cB wG, ((hC _).mp wG).2.2, _, _, _, _, _, _, _, _, _, _, _, rfl⟩
      | true =>
        refine iteT ⟨_, rfl, _, rfl, (by show 2 ≤ sizeLine; decide), fun t2 n2 => ?_⟩
        obtain ⟨w2, e2⟩ := cHi w1 n2
        generalize upd G1 t2 (.tup [V.ref c, .bl true]) = G2 at *
        refine ⟨mt, t2, x, r, b, true, rfl, cM w2, e2, sx1, sr1, ?_⟩
        refine ⟨_, rfl, (by show 2 ≤ sizeLine; decide), fun t4 n4 => ?_⟩
        obtain ⟨w4, e4⟩ := cLo w2 n4
        generalize upd G2 t4 (.tup [V.ref a, .bl false]) = G4 at *
        refine ⟨_, rfl, t4, mt, q, x, false, b, rfl, e4, cM w4, sq1, sx1, ⟨_, rfl, ?_⟩⟩
        rw [hA]
        refine iteT ⟨_, rfl, (by show 2 ≤ sizeLine; decide), fun t3 n3 => ?_⟩
        obtain ⟨w3, e3⟩ := cHi w4 n3
        generalize upd G4 t3 (.tup [V.ref c, .bl true]) = G3 at *
        cases hD : cAhead x b r true with
        | false =>
          refine ⟨_, rfl, _, rfl, iteF ⟨_, rfl, ?_⟩⟩
          refine ⟨_, rfl, _, rfl, p, mt, x, b, rfl, R_ (cB w3), cM w3, sx1, fun ch H4 k4 R4 hch => ?_⟩
          have w4 := cO w3 k4 R4
          have eD := (e3.offR (R_ (cB w3))).same k4
          have cIn : cInner q r x b = false := by rw [cInner_eq, hA, hD]; rfl
          have cQ : cFitQ q r x b = r := by unfold cFitQ; rw [cIn, hA]; rfl
          have cBt : cFitB q r x b = true := by unfold cFitB; rw [cIn, hA]; rfl
          obtain ⟨dx, fs, es, lf⟩ := at_ (cB w4)
          refine ⟨_, rfl, g, dx, _, rfl, es, lf _ (by decide) (by decide), _, rfl, g, .ref ch, q, r, x, b, rfl, g_ (cB w4), hch, sq9, sr9, sx9, fun H5 k5 => ⟨_, rfl, ?_⟩⟩
          rw [cIn]
          refine ⟨rfl, _, rfl, ite2 (fun z => absurd z (by decide)) (fun _ => ?_)⟩
          have w5 := cS w4 k5
          obtain ⟨dx, fs, es, lf⟩ := at_ (cB w5)
          refine ⟨_, rfl, g, dx, _, rfl, es, lf _ (by decide) (by decide), _, rfl, g, .ref ch, q, r, x, b, rfl, g_ (cB w5), hch.same k5, sq9, sr9, sx9, fun cf H6 k6 hcf => ?_⟩
          rw [cQ, cBt] at hcf
          refine ⟨_, rfl, cf, t3, r, true, rfl, hcf, (eD.same k5).same k6, sr19, fun H7 k7 => ⟨true, rfl, iteF ?_⟩⟩
          have w7 := cS w5 (k6.trans k7)
          have hch7 := hch.same (k5.trans (k6.trans k7))
          refine ⟨_, rfl, _, rfl, (by show 2 ≤ sizeLine; decide), fun m5 n5 => ?_⟩
          obtain ⟨w8, hm5⟩ := cHi w7 n5
          have um5 := same_new (o := .tup [V.ref c, .bl true]) n5
          replace hch7 := hch7.same um5
          generalize upd H7 m5 (.tup [V.ref c, .bl true]) = H8 at *
          refine ⟨(by show 1 ≤ sizeLine; decide), fun lf1 nlf1 => ?_⟩
          have ulf := same_new (o := .lst [V.ref m5]) nlf1
          have flf : upd H8 lf1 (.lst [V.ref m5]) lf1 = some (.lst [V.ref m5]) := upd_same
          have w9 := cS w8 ulf
          replace hch7 := hch7.same ulf
          replace hm5 := hm5.same ulf
          generalize upd H8 lf1 (.lst [V.ref m5]) = H9 at *
          refine ⟨l, lf1, _, _, rfl, rfl, l_ (cB w9), flf, (by first | (show (xs ++ [V.ref m5]).length ≤ sizeLine; rw [List.length_append, sizeLine_eq]; simp; omega) | (rw [sizeLine_eq]; simp; omega)), fun l4 n4' => ?_⟩
          have ul4 := same_new (o := .lst (xs ++ [V.ref m5])) n4'
          have fl4 : upd H9 l4 (.lst (xs ++ [V.ref m5])) l4 = some (.lst (xs ++ [V.ref m5])) := upd_same
          have l4p := (R_ (cB w9)).ne_new n4'
          have w10 := cS w9 ul4
          replace hch7 := hch7.same ul4
          have mm4 : MarksL (upd H9 l4 (.lst (xs ++ [V.ref m5]))) (xs ++ [V.ref m5]) := by
            intro v hv
            rcases List.mem_append.mp hv with hv | hv
            · exact (m_ (cB w10)) v hv
            · rw [List.mem_singleton.mp hv]
              exact ⟨m5, r, true, rfl, hm5.same ul4, sr⟩
          generalize upd H9 l4 (.lst (xs ++ [V.ref m5])) = H10 at *
          refine ⟨l4, rfl, ⟨_, SqL.of fl4⟩, ?_⟩
          refine for_list (K := K) (a := l4) (xs := xs ++ [V.ref m5]) (fun i z G' => C G' ∧ Same (off H10 p) G' ∧ ∃ v7 v8 v9 v11 v12 v13 v14 v15 v16, z = [some (.ref p), some (.ref a), some (.ref c), some (.ref l), some (.ref l2), some (.ref g), some (.ref mt), v7, v8, v9, some (.ref ch), v11, v12, v13, v14, v15, v16]) ?_ ?_ ?_ ?_
          · exact ⟨w10, rng_off, _, _, _, _, _, _, _, _, _, rfl⟩
          · rintro i z G' _ ⟨_, kG, _⟩
            exact SqL.of (kG l4 _ (by rw [off_ne l4p]; exact fl4))
          · rintro j y z G' hy' ⟨wG, kG, v7, v8, v9, v11, v12, v13, v14, v15, v16, rfl⟩
            obtain ⟨mf, xf, bf, rfl, hmf, sxf⟩ := ((mm4.offR (R_ (cB w10))).same kG) y (List.mem_of_getElem? hy')
            have hchG := (hch7.offR (R_ (cB w10))).same kG
            have sf1 : Sz 1000 xf := sxf.mono (by decide)
            have sf9 : Sz 100000 xf := sxf.mono (by decide)
            refine ⟨_, rfl, _, rfl, _, rfl, p, mf, xf, bf, rfl, R_ (cB wG), hmf, sf1, fun cf2 H11 k11 R11 hcf2 => ⟨(by show 2 ≤ sizeLine; decide), fun ts nts => ?_⟩⟩
            have w11 := cO wG k11 R11
            have uts := same_new (o := .tup [V.ref ch, .ref cf2]) nts
            have w12 := cS w11 uts
            have pair : PairAt K (upd H11 ts (.tup [V.ref ch, .ref cf2])) (.ref ts) x b xf bf := ⟨ts, _, _, rfl, upd_same, ((hchG.offR (R_ (cB wG))).same k11).same uts, hcf2.same uts⟩
            have hmf2 := ((hmf.offR (R_ (cB wG))).same k11).same uts
            have k12 : Same (off H10 p) (upd H11 ts (.tup [V.ref ch, .ref cf2])) := (off_off kG k11).trans uts
            generalize upd H11 ts (.tup [V.ref ch, .ref cf2]) = H12 at *
            refine ⟨_, rfl, _, rfl, mt, mf, x, xf, b, bf, rfl, cM w12, hmf2, sx1, sf1, ⟨_, rfl, ?_⟩⟩
            cases h1 : cAhead x b xf bf with
            | false =>
              refine iteF ?_
              obtain ⟨dx, fs, es, lf⟩ := at_ (cB w12)
              refine ⟨_, rfl, g, dx, _, rfl, es, lf _ (by decide) (by decide), _, rfl, g, .ref ts, rfl, .inl ⟨q, r, x, xf, b, bf, g_ (cB w12), pair.same (fun _ _ z => z), sq9, sr9, sx9, sf9, fun H20 k20 => ⟨_, rfl, ?_⟩⟩⟩
              rw [show cHas q r x b xf bf = false by unfold cHas; rw [h1]; rfl]
              refine ⟨rfl, _, rfl, ite2 (fun z => absurd z (by decide)) (fun _ => ?_)⟩
              exact ⟨cS w12 k20, (k12.trans (fun _ _ z => z)).trans k20, _, _, _, _, _, _, _, _, _, rfl⟩
            | true =>
              refine iteT ⟨_, rfl, _, rfl, (by show 2 ≤ sizeLine; decide), fun t5 n5 => ?_⟩
              obtain ⟨w13, e5⟩ := cLo w12 n5
              have u5 := same_new (o := .tup [V.ref a, .bl false]) n5
              generalize upd H12 t5 (.tup [V.ref a, .bl false]) = H13 at *
              refine ⟨mt, t5, x, q, b, false, rfl, cM w13, e5, sx1, sq1, ⟨_, rfl, ?_⟩⟩
              cases h2 : cAhead x b q false with
              | true =>
                refine ⟨_, rfl, iteF ?_⟩
                obtain ⟨dx, fs, es, lf⟩ := at_ (cB w13)
                refine ⟨_, rfl, g, dx, _, rfl, es, lf _ (by decide) (by decide), _, rfl, g, .ref ts, rfl, .inl ⟨q, r, x, xf, b, bf, g_ (cB w13), pair.same u5, sq9, sr9, sx9, sf9, fun H20 k20 => ⟨_, rfl, ?_⟩⟩⟩
                rw [show cHas q r x b xf bf = false by unfold cHas; rw [h1, h2]; rfl]
                refine ⟨rfl, _, rfl, ite2 (fun z => absurd z (by decide)) (fun _ => ?_)⟩
                exact ⟨cS w13 k20, (k12.trans u5).trans k20, _, _, _, _, _, _, _, _, _, rfl⟩
              | false =>
                refine ⟨_, rfl, iteT ⟨_, rfl, (by show 2 ≤ sizeLine; decide), fun t6 n6 => ?_⟩⟩
                obtain ⟨w14, e6⟩ := cHi w13 n6
                have u6 := same_new (o := .tup [V.ref c, .bl true]) n6
                have u56 := u5.trans u6
                have hmf3 := hmf2.same u56
                generalize upd H13 t6 (.tup [V.ref c, .bl true]) = H14 at *
                refine ⟨_, rfl, t6, mf, r, xf, true, bf, rfl, e6, hmf3, sr1, sf1, ⟨_, rfl, ?_⟩⟩
                cases h3 : cAhead r true xf bf with
                | true =>
                  obtain ⟨dx, fs, es, lf⟩ := at_ (cB w14)
                  refine ⟨_, rfl, g, dx, _, rfl, es, lf _ (by decide) (by decide), _, rfl, g, .ref ts, rfl, .inl ⟨q, r, x, xf, b, bf, g_ (cB w14), pair.same u56, sq9, sr9, sx9, sf9, fun H20 k20 => ⟨_, rfl, ?_⟩⟩⟩
                  rw [show cHas q r x b xf bf = false by unfold cHas; rw [h1, h2, h3]; rfl]
                  refine ⟨rfl, _, rfl, ite2 (fun z => absurd z (by decide)) (fun _ => ?_)⟩
                  exact ⟨cS w14 k20, (k12.trans u56).trans k20, _, _, _, _, _, _, _, _, _, rfl⟩
                | false =>
                  obtain ⟨dx, fs, es, lf⟩ := at_ (cB w14)
                  refine ⟨_, rfl, g, dx, _, rfl, es, lf _ (by decide) (by decide), _, rfl, g, .ref ts, rfl, .inl ⟨q, r, x, xf, b, bf, g_ (cB w14), pair.same u56, sq9, sr9, sx9, sf9, fun H20 k20 => ⟨_, rfl, ?_⟩⟩⟩
                  rw [show cHas q r x b xf bf = true by unfold cHas; rw [h1, h2, h3]; rfl]
                  refine ⟨rfl, _, rfl, ite2 (fun z => absurd z (by decide)) (fun _ => ?_)⟩
                  exact ⟨cS w14 k20, (k12.trans u56).trans k20, _, _, _, _, _, _, _, _, _, rfl⟩
          · rintro z G' ⟨wG, kG, v7, v8, v9, v11, v12, v13, v14, v15, v16, rfl⟩
            exact ⟨cB wG, ((hC _).mp wG).2.2, _, _, _, _, _, _, _, _, _, _, _, rfl⟩
        | true =>
          refine ⟨_, rfl, _, rfl, iteT ⟨_, rfl, ?_⟩⟩
          refine ⟨_, rfl, _, rfl, p, mt, x, b, rfl, R_ (cB w3), cM w3, sx1, fun ch H4 k4 R4 hch => ?_⟩
          have w4 := cO w3 k4 R4
          have eD := ((cM w3).offR (R_ (cB w3))).same k4
          have cIn : cInner q r x b = true := by rw [cInner_eq, hA, hD]; rfl
          have cQ : cFitQ q r x b = x := by unfold cFitQ; rw [cIn]; rfl
          have cBt : cFitB q r x b = b := by unfold cFitB; rw [cIn]; rfl
          obtain ⟨dx, fs, es, lf⟩ := at_ (cB w4)
          refine ⟨_, rfl, g, dx, _, rfl, es, lf _ (by decide) (by decide), _, rfl, g, .ref ch, q, r, x, b, rfl, g_ (cB w4), hch, sq9, sr9, sx9, fun H5 k5 => ⟨_, rfl, ?_⟩⟩
          rw [cIn]
          refine ⟨rfl, _, rfl, ite2 (fun z => absurd z (by decide)) (fun _ => ?_)⟩
          have w5 := cS w4 k5
          obtain ⟨dx, fs, es, lf⟩ := at_ (cB w5)
          refine ⟨_, rfl, g, dx, _, rfl, es, lf _ (by decide) (by decide), _, rfl, g, .ref ch, q, r, x, b, rfl, g_ (cB w5), hch.same k5, sq9, sr9, sx9, fun cf H6 k6 hcf => ?_⟩
          rw [cQ, cBt] at hcf
          refine ⟨_, rfl, cf, mt, x, b, rfl, hcf, (eD.same k5).same k6, (sx.mono (by decide)), fun H7 k7 => ⟨true, rfl, iteF ?_⟩⟩
          have w7 := cS w5 (k6.trans k7)
          have hch7 := hch.same (k5.trans (k6.trans k7))
          refine ⟨_, rfl, _, rfl, (by show 2 ≤ sizeLine; decide), fun m5 n5 => ?_⟩
          obtain ⟨w8, hm5⟩ := cHi w7 n5
          have um5 := same_new (o := .tup [V.ref c, .bl true]) n5
          replace hch7 := hch7.same um5
          generalize upd H7 m5 (.tup [V.ref c, .bl true]) = H8 at *
          refine ⟨(by show 1 ≤ sizeLine; decide), fun lf1 nlf1 => ?_⟩
          have ulf := same_new (o := .lst [V.ref m5]) nlf1
          have flf : upd H8 lf1 (.lst [V.ref m5]) lf1 = some (.lst [V.ref m5]) := upd_same
          have w9 := cS w8 ulf
          replace hch7 := hch7.same ulf
          replace hm5 := hm5.same ulf
          generalize upd H8 lf1 (.lst [V.ref m5]) = H9 at *
          refine ⟨l, lf1, _, _, rfl, rfl, l_ (cB w9), flf, (by first | (show (xs ++ [V.ref m5]).length ≤ sizeLine; rw [List.length_append, sizeLine_eq]; simp; omega) | (rw [sizeLine_eq]; simp; omega)), fun l4 n4' => ?_⟩
          have ul4 := same_new (o := .lst (xs ++ [V.ref m5])) n4'
          have fl4 : upd H9 l4 (.lst (xs ++ [V.ref m5])) l4 = some (.lst (xs ++ [V.ref m5])) := upd_same
          have l4p := (R_ (cB w9)).ne_new n4'
          have w10 := cS w9 ul4
          replace hch7 := hch7.same ul4
          have mm4 : MarksL (upd H9 l4 (.lst (xs ++ [V.ref m5]))) (xs ++ [V.ref m5]) := by
            intro v hv
            rcases List.mem_append.mp hv with hv | hv
            · exact (m_ (cB w10)) v hv
            · rw [List.mem_singleton.mp hv]
              exact ⟨m5, r, true, rfl, hm5.same ul4, sr⟩
          generalize upd H9 l4 (.lst (xs ++ [V.ref m5])) = H10 at *
          refine ⟨l4, rfl, ⟨_, SqL.of fl4⟩, ?_⟩
          refine for_list (K := K) (a := l4) (xs := xs ++ [V.ref m5]) (fun i z G' => C G' ∧ Same (off H10 p) G' ∧ ∃ v7 v8 v9 v11 v12 v13 v14 v15 v16, z = [some (.ref p), some (.ref a), some (.ref c), some (.ref l), some (.ref l2), some (.ref g), some (.ref mt), v7, v8, v9, some (.ref ch), v11, v12, v13, v14, v15, v16]) ?_ ?_ ?_ ?_
          · exact ⟨w10, rng_off, _, _, _, _, _, _, _, _, _, rfl⟩
          · rintro i z G' _ ⟨_, kG, _⟩
            exact SqL.of (kG l4 _ (by rw [off_ne l4p]; exact fl4))
          · rintro j y z G' hy' ⟨wG, kG, v7, v8, v9, v11, v12, v13, v14, v15, v16, rfl⟩
            obtain ⟨mf, xf, bf, rfl, hmf, sxf⟩ := ((mm4.offR (R_ (cB w10))).same kG) y (List.mem_of_getElem? hy')
            have hchG := (hch7.offR (R_ (cB w10))).same kG
            have sf1 : Sz 1000 xf := sxf.mono (by decide)
            have sf9 : Sz 100000 xf := sxf.mono (by decide)
            refine ⟨_, rfl, _, rfl, _, rfl, p, mf, xf, bf, rfl, R_ (cB wG), hmf, sf1, fun cf2 H11 k11 R11 hcf2 => ⟨(by show 2 ≤ sizeLine; decide), fun ts nts => ?_⟩⟩
            have w11 := cO wG k11 R11
            have uts := same_new (o := .tup [V.ref ch, .ref cf2]) nts
            have w12 := cS w11 uts
            have pair : PairAt K (upd H11 ts (.tup [V.ref ch, .ref cf2])) (.ref ts) x b xf bf := ⟨ts, _, _, rfl, upd_same, ((hchG.offR (R_ (cB wG))).same k11).same uts, hcf2.same uts⟩
            have hmf2 := ((hmf.offR (R_ (cB wG))).same k11).same uts
            have k12 : Same (off H10 p) (upd H11 ts (.tup [V.ref ch, .ref cf2])) := (off_off kG k11).trans uts
            generalize upd H11 ts (.tup [V.ref ch, .ref cf2]) = H12 at *
            refine ⟨_, rfl, _, rfl, mt, mf, x, xf, b, bf, rfl, cM w12, hmf2, sx1, sf1, ⟨_, rfl, ?_⟩⟩
            cases h1 : cAhead x b xf bf with
            | false =>
              refine iteF ?_
              obtain ⟨dx, fs, es, lf⟩ := at_ (cB w12)
              refine ⟨_, rfl, g, dx, _, rfl, es, lf _ (by decide) (by decide), _, rfl, g, .ref ts, rfl, .inl ⟨q, r, x, xf, b, bf, g_ (cB w12), pair.same (fun _ _ z => z), sq9, sr9, sx9, sf9, fun H20 k20 => ⟨_, rfl, ?_⟩⟩⟩
              rw [show cHas q r x b xf bf = false by unfold cHas; rw [h1]; rfl]
              refine ⟨rfl, _, rfl, ite2 (fun z => absurd z (by decide)) (fun _ => ?_)⟩
              exact ⟨cS w12 k20, (k12.trans (fun _ _ z => z)).trans k20, _, _, _, _, _, _, _, _, _, rfl⟩
            | true =>
              refine iteT ⟨_, rfl, _, rfl, (by show 2 ≤ sizeLine; decide), fun t5 n5 => ?_⟩
              obtain ⟨w13, e5⟩ := cLo w12 n5
              have u5 := same_new (o := .tup [V.ref a, .bl false]) n5
              generalize upd H12 t5 (.tup [V.ref a, .bl false]) = H13 at *
              refine ⟨mt, t5, x, q, b, false, rfl, cM w13, e5, sx1, sq1, ⟨_, rfl, ?_⟩⟩
              cases h2 : cAhead x b q false with
              | true =>
                refine ⟨_, rfl, iteF ?_⟩
                obtain ⟨dx, fs, es, lf⟩ := at_ (cB w13)
                refine ⟨_, rfl, g, dx, _, rfl, es, lf _ (by decide) (by decide), _, rfl, g, .ref ts, rfl, .inl ⟨q, r, x, xf, b, bf, g_ (cB w13), pair.same u5, sq9, sr9, sx9, sf9, fun H20 k20 => ⟨_, rfl, ?_⟩⟩⟩
                rw [show cHas q r x b xf bf = false by unfold cHas; rw [h1, h2]; rfl]
                refine ⟨rfl, _, rfl, ite2 (fun z => absurd z (by decide)) (fun _ => ?_)⟩
                exact ⟨cS w13 k20, (k12.trans u5).trans k20, _, _, _, _, _, _, _, _, _, rfl⟩
              | false =>
                refine ⟨_, rfl, iteT ⟨_, rfl, (by show 2 ≤ sizeLine; decide), fun t6 n6 => ?_⟩⟩
                obtain ⟨w14, e6⟩ := cHi w13 n6
                have u6 := same_new (o := .tup [V.ref c, .bl true]) n6
                have u56 := u5.trans u6
                have hmf3 := hmf2.same u56
                generalize upd H13 t6 (.tup [V.ref c, .bl true]) = H14 at *
                refine ⟨_, rfl, t6, mf, r, xf, true, bf, rfl, e6, hmf3, sr1, sf1, ⟨_, rfl, ?_⟩⟩
                cases h3 : cAhead r true xf bf with
                | true =>
                  obtain ⟨dx, fs, es, lf⟩ := at_ (cB w14)
                  refine ⟨_, rfl, g, dx, _, rfl, es, lf _ (by decide) (by decide), _, rfl, g, .ref ts, rfl, .inl ⟨q, r, x, xf, b, bf, g_ (cB w14), pair.same u56, sq9, sr9, sx9, sf9, fun H20 k20 => ⟨_, rfl, ?_⟩⟩⟩
                  rw [show cHas q r x b xf bf = false by unfold cHas; rw [h1, h2, h3]; rfl]
                  refine ⟨rfl, _, rfl, ite2 (fun z => absurd z (by decide)) (fun _ => ?_)⟩
                  exact ⟨cS w14 k20, (k12.trans u56).trans k20, _, _, _, _, _, _, _, _, _, rfl⟩
                | false =>
                  obtain ⟨dx, fs, es, lf⟩ := at_ (cB w14)
                  refine ⟨_, rfl, g, dx, _, rfl, es, lf _ (by decide) (by decide), _, rfl, g, .ref ts, rfl, .inl ⟨q, r, x, xf, b, bf, g_ (cB w14), pair.same u56, sq9, sr9, sx9, sf9, fun H20 k20 => ⟨_, rfl, ?_⟩⟩⟩
                  rw [show cHas q r x b xf bf = true by unfold cHas; rw [h1, h2, h3]; rfl]
                  refine ⟨rfl, _, rfl, ite2 (fun z => absurd z (by decide)) (fun _ => ?_)⟩
                  exact ⟨cS w14 k20, (k12.trans u56).trans k20, _, _, _, _, _, _, _, _, _, rfl⟩
          · rintro z G' ⟨wG, kG, v7, v8, v9, v11, v12, v13, v14, v15, v16, rfl⟩
            exact ⟨cB wG, ((hC _).mp wG).2.2, _, _, _, _, _, _, _, _, _, _, _, rfl⟩
    · rintro z G ⟨bG, kG, v6, v7, v8, v9, v10, v11, v12, v13, v14, v15, v16, rfl⟩
      -- the wider one
      refine ⟨_, rfl, _, rfl, _, rfl, _, rfl, _, rfl, p, g, a, c, l, q, r, xs, rfl, R_ bG, g_ bG, a_ bG, c_ bG, sq, sr, l_ bG, lp, by omega, m_ bG, fun H20 k20 R20 => ⟨true, rfl, iteF ?_⟩⟩
      have b20 := stO bG k20 R20
      clear b19 mm fl3 l3p
      refine ⟨_, rfl, _, rfl, _, rfl, (by show 2 ≤ sizeLine; decide), fun l5 n5 => ?_⟩
      have u5 := same_new (o := .lst [V.ref a, .ref c]) n5
      have f5 : upd H20 l5 (.lst [V.ref a, .ref c]) l5 = some (.lst [V.ref a, .ref c]) := upd_same
      have b21 := stS b20 u5
      generalize upd H20 l5 (.lst [V.ref a, .ref c]) = H21 at *
      refine ⟨l2, l5, _, _, rfl, rfl, l2_ b21, f5, (by first | (show (ys ++ [V.ref a, .ref c]).length ≤ sizeLine; rw [List.length_append, sizeLine_eq]; simp; omega) | (rw [sizeLine_eq]; simp; omega)), fun l6 n6 => ?_⟩
      have u6 := same_new (o := .lst (ys ++ [V.ref a, .ref c])) n6
      have f6 : upd H21 l6 (.lst (ys ++ [V.ref a, .ref c])) l6 = some (.lst (ys ++ [V.ref a, .ref c])) := upd_same
      have l6p := (R_ b21).ne_new n6
      have b22 := stS b21 u6
      generalize upd H21 l6 (.lst (ys ++ [V.ref a, .ref c])) = H22 at *
      have pp : PartsL H22 (ys ++ [V.ref a, .ref c]) := by
        intro v hv
        rcases List.mem_append.mp hv with hv | hv
        · exact (p_ b22) v hv
        · simp only [List.mem_cons, List.not_mem_nil, or_false] at hv
          rcases hv with rfl | rfl
          · exact ⟨a, q, rfl, a_ b22, sq⟩
          · exact ⟨c, r, rfl, c_ b22, sr⟩
      refine ⟨l6, rfl, ⟨_, SqL.of f6⟩, ?_⟩
      refine for_list (K := K) (a := l6) (xs := ys ++ [V.ref a, .ref c]) (fun i z G' => B G' ∧ Same (off H22 p) G' ∧ ∃ v6 v7 v8 v9 v10 v11 v12 v13 v14 v15 v16, z = [some (.ref p), some (.ref a), some (.ref c), some (.ref l), some (.ref l2), some (.ref g), v6, v7, v8, v9, v10, v11, v12, v13, v14, v15, v16]) ?_ ?_ ?_ ?_
      · exact ⟨b22, rng_off, _, _, _, _, _, _, _, _, _, _, _, rfl⟩
      · rintro i z G' _ ⟨_, kG', _⟩
        exact SqL.of (kG' l6 _ (by rw [off_ne l6p]; exact f6))
      · rintro i y z G' hy ⟨w, kG', v6, v7, v8, v9, v10, v11, v12, v13, v14, v15, v16, rfl⟩
        obtain ⟨tp, x, rfl, hx, sx⟩ := ((pp.offR (R_ b22)).same kG') y (List.mem_of_getElem? hy)
        have sx1 : Sz 1000 x := sx.mono (by decide)
        have sx9 : Sz 100000 x := sx.mono (by decide)
        refine ⟨_, rfl, _, rfl, p, tp, x, rfl, R_ w, hx, sx1, fun xv H23 k23 R23 hxv => ?_⟩
        have w23 := stO w k23 R23
        have hx23 := (hx.offR (R_ w)).same k23
        obtain ⟨dx, fs, es, lf⟩ := at_ w23
        refine ⟨_, rfl, g, dx, _, rfl, es, g, xv, q, r, x, rfl, g_ w23, hxv, sq9, sr9, sx9, fun H24 k24 => ⟨_, rfl, ?_⟩⟩
        have w24 := stS w23 k24
        have hx24 := hx23.same k24
        refine ⟨_, rfl, _, rfl, tp, a, x, q, rfl, hx24, a_ w24, sx1, sq1, ⟨_, rfl, ?_⟩⟩
        have nx : ∀ {G : Hp}, B G → Same H24 G → B G ∧ Same (off H22 p) G ∧ ∃ v6 v7 v8 v9 v10 v11 v12 v13 v14 v15 v16, [some (V.ref p), some (.ref a), some (.ref c), some (.ref l), some (.ref l2), some (.ref g), v6, v7, v8, v9, v10, v11, v12, v13, some (.ref tp), v15, v16] = [some (V.ref p), some (.ref a), some (.ref c), some (.ref l), some (.ref l2), some (.ref g), v6, v7, v8, v9, v10, v11, v12, v13, some (.ref tp), v15, v16] := fun x s => ⟨x, ((off_off kG' k23).trans k24).trans s, v6, v7, v8, v9, v10, v11, v12, v13, v14, v15, v16, rfl⟩
        clear nx
        cases hL : rBelow x q with
        | true =>
          refine ⟨_, rfl, iteF ⟨rfl, _, rfl, ite2 (fun z => absurd z (by simp)) (fun _ => ?_)⟩⟩
          exact ⟨w24, (off_off kG' k23).trans k24, _, _, _, _, _, _, _, _, _, _, _, rfl⟩
        | false =>
          refine ⟨_, rfl, iteT ⟨_, rfl, _, rfl, c, tp, r, x, rfl, c_ w24, hx24, sr1, sx1, ⟨_, rfl, ⟨rfl, _, rfl, ite2 (fun z => absurd z (by simp)) (fun _ => ?_)⟩⟩⟩⟩
          exact ⟨w24, (off_off kG' k23).trans k24, _, _, _, _, _, _, _, _, _, _, _, rfl⟩
      · rintro z G' ⟨w, _, v6, v7, v8, v9, v10, v11, v12, v13, v14, v15, v16, rfl⟩
        have aT : ∀ {G : Hp}, B G → SqT K G a [.int q.num, .int (q.den : Int)] := fun x => SqT.of (a_ x)
        have cT : ∀ {G : Hp}, B G → SqT K G c [.int r.num, .int (r.den : Int)] := fun x => SqT.of (c_ x)
        clear b20 b21 b22 u5 u6 f5 f6 pp n5 n6
        -- equal to one made alike
        refine ⟨_, rfl, _, rfl, a, _, _, _, rfl, rfl, aT w, rfl, _, rfl, a, _, _, _, rfl, rfl, aT w, rfl, ?_⟩
        intro x1 d1 nx nd ne
        refine made_ratQ nx nd sq (by decide) fun H25 k25 hx1 => ⟨rfl, ?_⟩
        have w25 := stS w k25
        refine ⟨_, rfl, c, _, _, _, rfl, rfl, cT w25, rfl, _, rfl, c, _, _, _, rfl, rfl, cT w25, rfl, ?_⟩
        intro x2 d2 nx2 nd2 ne2
        refine made_ratQ nx2 nd2 sr (by decide) fun H26 k26 hx2 => ⟨rfl, ?_⟩
        intro g2 dg2 ng2 ngd2 neg2
        refine made_rngR ng2 ngd2 neg2 (.inr ⟨x1, rfl, hx1.same k26⟩) (.inr ⟨x2, rfl, hx2⟩) sq9 sr9 le fun H27 k27 hg2 => ⟨rfl, ?_⟩
        have w27 := stS w25 (k26.trans k27)
        refine ne_rngS T (g_ w27) hg2 ?_
        rw [decide_eq_true (rfl : q = q), decide_eq_true (rfl : r = r)]
        refine ⟨_, rfl, iteF ?_⟩
        refine ⟨_, rfl, _, rfl, _, rfl, (by show 2 ≤ sizeLine; decide), fun t7 n7 => ?_⟩
        have w28 := stS w27 (same_new (o := .tup [V.ref a, .ref c]) n7)
        have f7 : upd H27 t7 (.tup [V.ref a, .ref c]) t7 = some (.tup [V.ref a, .ref c]) := upd_same
        generalize upd H27 t7 (.tup [V.ref a, .ref c]) = H28 at *
        refine eq_rngT X.far (g_ w28) f7 ⟨_, rfl, iteF ?_⟩
        obtain ⟨dx, fs, es, lf⟩ := at_ w28
        refine ⟨_, rfl, _, rfl, g, dx, _, rfl, es, lf _ (by decide) (by decide), g, q, r, rfl, g_ w28, fun t8 c1 c2 H29 k29 ht8 hc1 hc2 => ?_⟩
        have w29 := stS w28 k29
        refine eq_rngT X.far (g_ w29) ht8 ⟨_, rfl, iteF ?_⟩
        clear w27 w28 w25 w hx1 hx2 hg2 ht8 hc1 hc2 f7
        -- the text
        have line := sizeLine_eq
        have lq := reprQ_len (sq.mono (by decide : 200 ≤ 900))
        have lr := reprQ_len (sr.mono (by decide : 200 ≤ 900))
        have q0 : (Str.ofString "Range(").length = 6 := by decide +kernel
        have q1 : (Str.ofString ", ").length = 2 := by decide +kernel
        have q2 : (Str.ofString ")").length = 1 := by decide +kernel
        refine ⟨_, rfl, a, _, _, _, rfl, rfl, aT w29, rfl, _, rfl, a, _, _, _, rfl, rfl, aT w29, rfl, ?_⟩
        intro x3 d3 nx3 nd3 ne3
        refine made_ratQ nx3 nd3 sq (by decide) fun H30 k30 hx3 => ⟨rfl, ?_⟩
        refine ⟨.ref x3, reprQ q, rfl, .inr (.inl (.inr ⟨x3, q, rfl, hx3, sq.mono (by decide), rfl⟩)), fun H31 k31 => ?_⟩
        have w31 := stS w29 (k30.trans k31)
        refine ⟨_, _, rfl, rfl, by omega, ?_⟩
        refine ⟨_, _, rfl, rfl, by rw [strLen_append]; omega, ?_⟩
        refine ⟨_, rfl, c, _, _, _, rfl, rfl, cT w31, rfl, _, rfl, c, _, _, _, rfl, rfl, cT w31, rfl, ?_⟩
        intro x4 d4 nx4 nd4 ne4
        refine made_ratQ nx4 nd4 sr (by decide) fun H32 k32 hx4 => ⟨rfl, ?_⟩
        refine ⟨.ref x4, reprQ r, rfl, .inr (.inl (.inr ⟨x4, r, rfl, hx4, sr.mono (by decide), rfl⟩)), fun H33 k33 => ?_⟩
        have w33 := stS w31 (k32.trans k33)
        refine ⟨_, _, rfl, rfl, by rw [strLen_append, strLen_append]; omega, ?_⟩
        refine ⟨_, _, rfl, rfl, by rw [strLen_append, strLen_append, strLen_append]; omega, ?_⟩
        have et : reprG2 q r = ((((Str.ofString "Range(") ++ reprQ q) ++ (Str.ofString ", ")) ++ reprQ r) ++ (Str.ofString ")") := by
          have z : ∀ x : Str, Str.empty ++ x = x := by
            intro x
            show Str.mk (#[] ++ x.cps) = x
            rw [Array.empty_append]
          unfold reprG2
          rw [z]
        rw [← et]
        -- one further up
        refine ⟨_, rfl, (by show 2 ≤ sizeLine; decide), fun t9 n9 => ?_⟩
        have u9 := same_new (o := .tup [V.int 1, .int 1]) n9
        have f9 : PartAt (upd H33 t9 (.tup [V.int 1, .int 1])) t9 1 := upd_same
        have w34 := stS w33 u9
        generalize upd H33 t9 (.tup [V.int 1, .int 1]) = H34 at *
        have z1 : Sz 2 (1 : Rat) := ⟨by decide, by decide⟩
        refine ⟨c, t9, r, 1, rfl, c_ w34, f9, sr1, z1.mono (by decide), fun c9 H35 k35 _ hc9 => ?_⟩
        have w35 := stS w34 k35
        have sr' : Sz 300 (rAdd r 1) := (rAdd_sz2 sr z1).mono (by decide)
        have le' : rBelow (rAdd r 1) q = false := by
          rw [rBelow_not, rAdd_eq]
          have := rBelow_not.mp le
          grind
        have nr : ¬ r = rAdd r 1 := by
          rw [rAdd_eq]
          grind
        generalize rAdd r 1 = r' at *
        obtain ⟨dx, fs, es, lf⟩ := at_ w35
        refine ⟨_, rfl, g, dx, _, rfl, es, g, q, r, rfl, g_ w35, sq.mono (by decide), sr.mono (by decide), _, rfl, _, rfl, rfl, ?_⟩
        rw [decide_eq_true rfl]
        refine ⟨_, rfl, iteT ?_⟩
        refine ⟨_, rfl, _, rfl, g, dx, _, rfl, es, g, _, _, rfl, g_ w35, fun o1 ho1 => ?_⟩
        refine ⟨_, rfl, c9, _, _, _, rfl, rfl, SqT.of hc9, rfl, _, rfl, c9, _, _, _, rfl, rfl, SqT.of hc9, rfl, ?_⟩
        intro x5 d5 nx5 nd5 ne5
        refine made_ratQ nx5 nd5 sr' (by decide) fun H36 k36 hx5 => ⟨rfl, ?_⟩
        intro g3 dg3 ng3 ngd3 neg3
        refine made_rngR ng3 ngd3 neg3 (.inr ⟨o1, rfl, ho1.same k36⟩) (.inr ⟨x5, rfl, hx5⟩) sq9 (sz_big sr') le' fun H37 k37 hg3 => ⟨rfl, ?_⟩
        have w37 := stS w35 (k36.trans k37)
        refine ne_rngS T (g_ w37) hg3 ?_
        rw [decide_eq_false nr, Bool.and_false]
        exact k _ (kk_ w37) (R_ w37)
end
end K18
set_option maxHeartbeats 4000000
namespace K18
open PySem PySem.Spec PyProof.Rows L2 GL
/-- no type of things that stand here is of the class Ratio -/
structure NA (K : PySem.W.Frag) : Prop where
  r : ∀ n ∈ (["NoneType", "str", "list", "tuple", "dict", "bool", "int"] : List String), PySem.W.kitOne K (.type n) (.ref (aR K)) = some false
/-- what stands there, and how it is shown -/
inductive OddO : HO → PyData → Prop
  | t0 : OddO (.tup []) (.tuple [])
  | t1 : OddO (.tup [.int 1]) (.tuple [.int 1])
  | t10 : OddO (.tup [.int 1, .int 0]) (.tuple [.int 1, .int 0])
  | t11 : OddO (.tup [.int 1, .int 1]) (.tuple [.int 1, .int 1])
  | t12 : OddO (.tup [.int 1, .int 2]) (.tuple [.int 1, .int 2])
  | l1 : OddO (.lst [.int 1, .bl true]) (.list [.int 1, .bool true])
  | l0 : OddO (.lst []) (.list [])
  | tT : OddO (.tup [.bl true, .bl true]) (.tuple [.bool true, .bool true])
  | tS : OddO (.tup [.str "1", .bl false]) (.tuple [.str "1", .bool false])
  | tN : OddO (.tup [.int 1, .non]) (.tuple [.int 1, .none])
  | d : OddO (.dK []) (.dict [])
inductive OddF : V → PyData → Prop
  | non : OddF .non .none
  | bT : OddF (.bl true) (.bool true)
  | z : OddF (.int 0) (.int 0)
  | e : OddF (.str "") (.str "")
  | s : OddF (.str "1") (.str "1")
theorem OddO.noTbl {o : HO} {pd : PyData} (h : OddO o pd) (x) : o ≠ .tbl x := by cases h <;> exact fun z => nomatch z
/-- what is no cut -/
def Odd (p : Addr) (H : Hp) (v : V) (pd : PyData) : Prop := OddF v pd ∨ ∃ a o, v = .ref a ∧ a ≠ p ∧ H a = some o ∧ OddO o pd
theorem Odd.ext {p : Addr} {H H' : Hp} {v : V} {pd : PyData} (h : Odd p H v pd) (k : LamX.ExtN H H') : Odd p H' v pd := by
  rcases h with h | ⟨a, o, e, n, h, c⟩
  · exact .inl h
  · exact .inr ⟨a, o, e, n, k _ _ h fun x => c.noTbl x, c⟩
theorem Odd.offp {p : Addr} {H : Hp} {v : V} {pd : PyData} (h : Odd p H v pd) : Odd p (GL.off H p) v pd := by
  rcases h with h | ⟨a, o, e, n, h, c⟩
  · exact .inl h
  · exact .inr ⟨a, o, e, n, by rw [off_ne n]; exact h, c⟩
/-- how data is shown: within bounds -/
structure Shows (pd : PyData) : Prop where
  sh : pd.showable = true
  dp : pd.depth ≤ 9
  ln : pd.shown.length ≤ 90
  ok : PyData.strOk pd.shown = true
theorem OddF.shows {v : V} {pd : PyData} (h : OddF v pd) : Shows pd := by
  cases h <;> exact ⟨by decide +kernel, by decide, by decide +kernel, by decide +kernel⟩
theorem OddO.shows {o : HO} {pd : PyData} (h : OddO o pd) : Shows pd := by
  cases h <;> exact ⟨by decide +kernel, by decide, by decide +kernel, by decide +kernel⟩
theorem Odd.shows {p : Addr} {H : Hp} {v : V} {pd : PyData} (h : Odd p H v pd) : Shows pd := by
  rcases h with h | ⟨a, o, rfl, n, h, c⟩
  · exact h.shows
  · exact c.shows
theorem Odd.dq {K : PySem.W.Frag} {p : Addr} {H : Hp} {v : V} {pd : PyData} (h : Odd p H v pd) : Dq K H v pd := by
  rcases h with h | ⟨a, o, rfl, n, h, c⟩
  · cases h with
    | non => exact .non
    | bT => exact .bl _
    | z => exact .int 0
    | e => exact .str _
    | s => exact .str _
  · cases c with
    | t0 => exact .tup (SqT.of h) .nil
    | t1 => exact .tup (SqT.of h) (.cons (.int 1) .nil)
    | t10 => exact .tup (SqT.of h) (.cons (.int 1) (.cons (.int 0) .nil))
    | t11 => exact .tup (SqT.of h) (.cons (.int 1) (.cons (.int 1) .nil))
    | t12 => exact .tup (SqT.of h) (.cons (.int 1) (.cons (.int 2) .nil))
    | l1 => exact .lst (SqL.of h) (.cons (.int 1) (.cons (.bl _) .nil))
    | l0 => exact .lst (SqL.of h) .nil
    | tT => exact .tup (SqT.of h) (.cons (.bl _) (.cons (.bl _) .nil))
    | tS => exact .tup (SqT.of h) (.cons (.str _) (.cons (.bl _) .nil))
    | tN => exact .tup (SqT.of h) (.cons (.int 1) (.cons .non .nil))
    | d => exact .dct h .nil
theorem Shows.rep {K : PySem.W.Frag} {H : Hp} {v : V} {pd : PyData} (s : Shows pd) (h : Dq K H v pd) : RepAt K H v pd.shown := .inl ⟨pd, h, s.sh, Nat.le_trans s.dp (by decide), Nat.le_trans s.ln (by decide), rfl⟩
section
variable {K : PySem.W.Frag} {p : Addr} {H : Hp} {v : V} {pd : PyData}
theorem notI_ty {t : String} (ty : TyX K H v (.type t)) (e : PySem.W.kitOne K (.type t) (.type "int") = some false) : NotI K H v := ⟨_, false, false, ty, e, (fun z => by cases z), rfl⟩
theorem notN_bl (N : NA K) {b : Bool} : NotN K H (.bl b) := ⟨⟨_, true, true, .base (.bl b), kit_ty (by decide +kernel), fun _ => kit_ty (by decide +kernel), rfl⟩, _, .base (.bl b), N.r _ (by decide)⟩
theorem notN_str (N : NA K) {x : Str} : NotN K H (.str x) := ⟨notI_ty (.base (.str _)) (kit_ty (by decide +kernel)), _, .base (.str _), N.r _ (by decide)⟩
theorem notN_non (N : NA K) : NotN K H .non := ⟨notI_ty (.base .non) (kit_ty (by decide +kernel)), _, .base .non, N.r _ (by decide)⟩
theorem Odd.notN (N : NA K) (h : Odd p H v pd) (nz : v ≠ .int 0) : NotN K H v := by
  rcases h with h | ⟨a, o, rfl, n, h, c⟩
  · cases h with
    | non => exact notN_non N
    | bT => exact notN_bl N
    | z => exact absurd rfl nz
    | e => exact notN_str N
    | s => exact notN_str N
  · cases c with
    | l1 => exact ⟨notI_ty (.base (.lst h)) (kit_ty (by decide +kernel)), _, .base (.lst h), N.r _ (by decide)⟩
    | l0 => exact ⟨notI_ty (.base (.lst h)) (kit_ty (by decide +kernel)), _, .base (.lst h), N.r _ (by decide)⟩
    | d => exact ⟨notI_ty (.base (.dK h)) (kit_ty (by decide +kernel)), _, .base (.dK h), N.r _ (by decide)⟩
    | _ => exact ⟨notI_ty (.base (.tup h)) (kit_ty (by decide +kernel)), _, .base (.tup h), N.r _ (by decide)⟩
theorem notC_int {i : Int} : NotC K H (.int i) := .inl ⟨_, .base (.int i), kit_ty (by decide +kernel)⟩
theorem notC_bl {b : Bool} : NotC K H (.bl b) := .inl ⟨_, .base (.bl b), kit_ty (by decide +kernel)⟩
theorem notC_str {x : Str} : NotC K H (.str x) := .inl ⟨_, .base (.str x), kit_ty (by decide +kernel)⟩
theorem Odd.notC (N : NA K) (h : Odd p H v pd) : NotC K H v := by
  rcases h with h | ⟨a, o, rfl, n, h, c⟩
  · cases h with
    | non => exact .inl ⟨_, .base .non, kit_ty (by decide +kernel)⟩
    | bT => exact notC_bl
    | z => exact notC_int
    | e => exact notC_str
    | s => exact notC_str
  · cases c with
    | t0 => exact .inr (.inl ⟨a, _, rfl, h, by decide⟩)
    | t1 => exact .inr (.inl ⟨a, _, rfl, h, by decide⟩)
    | t10 => exact .inr (.inr (.inr ⟨a, 1, .int 0, _, rfl, h, .base (.int 0), kit_ty (by decide +kernel)⟩))
    | t11 => exact .inr (.inr (.inr ⟨a, 1, .int 1, _, rfl, h, .base (.int 1), kit_ty (by decide +kernel)⟩))
    | t12 => exact .inr (.inr (.inr ⟨a, 1, .int 2, _, rfl, h, .base (.int 2), kit_ty (by decide +kernel)⟩))
    | l1 => exact .inl ⟨_, .base (.lst h), kit_ty (by decide +kernel)⟩
    | l0 => exact .inl ⟨_, .base (.lst h), kit_ty (by decide +kernel)⟩
    | tT => exact .inr (.inr (.inl ⟨a, _, _, rfl, h, notN_bl N⟩))
    | tS => exact .inr (.inr (.inl ⟨a, _, _, rfl, h, notN_str N⟩))
    | tN => exact .inr (.inr (.inr ⟨a, 1, .non, _, rfl, h, .base .non, kit_ty (by decide +kernel)⟩))
    | d => exact .inl ⟨_, .base (.dK h), kit_ty (by decide +kernel)⟩
theorem Odd.notS (h : Odd p H v pd) : NotS K H v := by
  rcases h with h | ⟨a, o, rfl, n, h, c⟩
  · cases h with
    | non => exact .inl ⟨_, .base .non, kit_ty (by decide +kernel)⟩
    | bT => exact .inl ⟨_, .base (.bl _), kit_ty (by decide +kernel)⟩
    | z => exact .inl ⟨_, .base (.int 0), kit_ty (by decide +kernel)⟩
    | e => exact .inl ⟨_, .base (.str _), kit_ty (by decide +kernel)⟩
    | s => exact .inl ⟨_, .base (.str _), kit_ty (by decide +kernel)⟩
  · cases c with
    | t0 => exact .inr (.inl ⟨a, _, rfl, h, by decide⟩)
    | t1 => exact .inr (.inl ⟨a, _, rfl, h, by decide⟩)
    | t10 => exact .inr (.inr (.inl ⟨a, _, _, rfl, h, notC_int⟩))
    | t11 => exact .inr (.inr (.inl ⟨a, _, _, rfl, h, notC_int⟩))
    | t12 => exact .inr (.inr (.inl ⟨a, _, _, rfl, h, notC_int⟩))
    | l1 => exact .inl ⟨_, .base (.lst h), kit_ty (by decide +kernel)⟩
    | l0 => exact .inl ⟨_, .base (.lst h), kit_ty (by decide +kernel)⟩
    | tT => exact .inr (.inr (.inl ⟨a, _, _, rfl, h, notC_bl⟩))
    | tS => exact .inr (.inr (.inl ⟨a, _, _, rfl, h, notC_str⟩))
    | tN => exact .inr (.inr (.inl ⟨a, _, _, rfl, h, notC_int⟩))
    | d => exact .inl ⟨_, .base (.dK h), kit_ty (by decide +kernel)⟩
/-! ### things that are no stretch -/
def gD : PyData := .tuple [.int 1, .bool false]
theorem gD_dq {g : Addr} (h : H g = some (.tup [.int 1, .bl false])) : Dq K H (.ref g) gD := .tup (SqT.of h) (.cons (.int 1) (.cons (.bl _) .nil))
theorem gD_cut {g : Addr} (h : H g = some (.tup [.int 1, .bl false])) : CutAt K H (.ref g) 1 false := ⟨g, .int 1, rfl, h, .inl ⟨1, rfl, by decide +kernel⟩⟩
theorem gg_shows : Shows (.tuple [gD, gD]) := ⟨by decide +kernel, by decide, by decide +kernel, by decide +kernel⟩
theorem lg_shows : Shows (.list [gD, .tuple [.int 2, .bool true]]) := ⟨by decide +kernel, by decide, by decide +kernel, by decide +kernel⟩
theorem g3_shows : Shows (.tuple [gD, .tuple [.int 2, .bool true], gD]) := ⟨by decide +kernel, by decide, by decide +kernel, by decide +kernel⟩
theorem go_shows (h : Odd p H v pd) : Shows (.tuple [gD, pd]) := by
  rcases h with h | ⟨a, o, rfl, n, h, c⟩
  · cases h <;> exact ⟨by decide +kernel, by decide, by decide +kernel, by decide +kernel⟩
  · cases c <;> exact ⟨by decide +kernel, by decide, by decide +kernel, by decide +kernel⟩
/-- one of the things: it is no stretch, and is shown so -/
def Thing (K : PySem.W.Frag) (H : Hp) (v : V) : Prop := NotS K H v ∧ ∃ pd, Dq K H v pd ∧ Shows pd
theorem Thing.same {H H' : Hp} (h : Thing K H v) (k : Same H H') : Thing K H' v := by
  obtain ⟨a, pd, d, s⟩ := h
  exact ⟨a.same k, pd, Dq.same k d, s⟩
end
end K18
set_option maxHeartbeats 4000000
namespace K18
open PySem PySem.Spec PyProof.Rows L2 GL
abbrev sRefused : Stmt := tp 45
theorem op_isnB {X : Cx} : OpR X (compareOp .IsNot) (fun x y H Q => ∃ a b, x = .bl a ∧ y = .bl b ∧ Q (.bl !(a == b)) H) := by
  intro pins s z H x y v u Q I rx ry h
  obtain ⟨a, b, rfl, rfl, q⟩ := h
  cases rx
  cases ry
  cases a <;> cases b <;> exact wpAny_pure (fin_bl I q rfl)
section
variable {P : Program} {w : World} {K : PySem.W.Frag} {mg : Str → Option Value} {base : Heap}
/-- what stands behind G0, with the tables -/
structure BX (T : List (Addr × Str)) (G0 G : Hp) : Prop where
  ex : LamX.ExtN G0 G
  tb : LamX.Tabs T G
theorem BX.stE {T : List (Addr × Str)} {G0 G G' : Hp} (b : BX T G0 G) (e : LamX.ExtN G G') (t : LamX.Tabs T G') : BX T G0 G' := ⟨b.1.trans e, t⟩
theorem BX.stS {T : List (Addr × Str)} {G0 G G' : Hp} (b : BX T G0 G) (s : Same G G') : BX T G0 G' := ⟨b.1.trans (same_extN s), Tabs.same b.2 s⟩
theorem BX.new {T : List (Addr × Str)} {G0 G : Hp} {W : Addr} (b : BX T G0 G) (n : G W = none) : ∀ o, G0 W = some o → (∀ ps, o ≠ .tbl ps) → False := fun o e nt => by
  have z := b.1 _ _ e nt
  rw [n] at z
  cases z
theorem tabs_updL {T : List (Addr × Str)} {H : Hp} {D : Addr} {xs : List V} {o : HO} (t : LamX.Tabs T H) (e : H D = some (.lst xs)) : LamX.Tabs T (upd H D o) := fun x hx => by
  obtain ⟨ps, h1, h2, h3⟩ := t x hx
  refine ⟨ps, ?_, h2, fun pos cv hc => ?_⟩
  · rw [upd_ne (fun z => by rw [z, e] at h1; cases h1)]
    exact h1
  · obtain ⟨c, e1, e2⟩ := h3 pos cv hc
    refine ⟨c, e1, ?_⟩
    rw [upd_ne (fun z => by rw [z, e] at e2; exact codeO_lst (Option.some.inj e2).symm)]
    exact e2
theorem BX.upL {T : List (Addr × Str)} {G0 G : Hp} {W : Addr} {xs : List V} {o : HO} (b : BX T G0 G) (n : ∀ o, G0 W = some o → (∀ ps, o ≠ .tbl ps) → False) (e : G W = some (.lst xs)) : BX T G0 (upd G W o) := ⟨fun c o' ec nt => by
  by_cases h : c = W
  · rw [h] at ec
    exact (n _ ec nt).elim
  · rw [upd_ne h]
    exact b.1 c o' ec nt, tabs_updL b.2 e⟩
theorem made_ratR {K : PySem.W.Frag} {H : Hp} {R : VK} {E : XK} {x dx : Addr} {t b : Int} (hx : H x = none) (hd : H dx = none) (hb : b ≠ 0) (hz : b.natAbs < 2 ^ 9000) (k : ∀ H', Same H H' → RatAt K H' x (Rat.divInt t b) → R .non H') :
    spRInit K [.ref x, .int t, .int b] (upd (upd H dx (.own x)) x (.ins (aR K) dx [])) R E :=
  ⟨x, dx, t, b, rfl, hb, hz, upd_same, fun H' e kp => k H' (fun c o ec => kp c o (ne_of_none ec hx) (by rw [upd_ne (ne_of_none ec hx), upd_ne (ne_of_none ec hd)]; exact ec)) ⟨dx, e⟩⟩
theorem tt_val {K : PySem.W.Frag} {C : Addr} {n z : Str} {tl : XK → Hp → VK → Prop} {H : Hp} {Q : VK} {v : V} (t : Told K C n) (h : RepAt K H v z) (run : ∀ E H1 R, Same H H1 → outS C "value" v H1 E → tl E H1 R) (fin : ∀ r H3, Same H H3 → H r = none → H3 r = some (.lst [.str n, .str z]) → Q (.ref r) H3) : TT11 K tl H Q :=
  ⟨C, n, z, t, fun E H1 R s o => run E H1 R s fun d H2 k2 n2 e2 => o d v H2 k2 n2 e2 (h.same (s.trans k2)), fin⟩
structure LY (P : Program) (w : World) (K : PySem.W.Frag) (mg : Str → Option Value) (base : Heap) : Prop where
  W : LW P w K mg base
  N : NA K
  ac : DefX P w K mg base "is_above" 6 ["number", "cut"] (spAboveC K)
  an : DefX P w K mg base "is_above" 6 ["number", "cut"] (spAboveN K)
  ax : DefX P w K mg base "is_ahead" 7 ["one", "other"] (spAheadX K)
  mx : DefX P w K mg base "mark_of" 9 ["stretch"] (spMarkX K)
  ws : DefX P w K mg base "is_within" 9 ["number", "stretch"] (spWithinS K)
  wn : DefX P w K mg base "is_within" 6 ["number", "stretch"] (spWithinN K)
  ic : DefF P w K mg base "is_cut" 3 ["value"] (spIsCutA K)
  is : DefF P w K mg base "is_stretch" 8 ["value"] (spStretchX K)
  ix : ∃ f fd, Meth K (aG K) "is_inner" f ∧ FnOk P w K mg base (L2.CX P w) 8 f fd ["self", "cut"] (spInnerX K) ∧ Binds K fd ["self", "cut"] []
  fx : ∃ f fd, Meth K (aG K) "fit" f ∧ FnOk P w K mg base (L2.CX P w) 9 f fd ["self", "cut"] (spInnerX K) ∧ Binds K fd ["self", "cut"] []
  hx : MetX P w K mg base (aG K) "has_stretch" 9 ["self", "value"] (spHasX K)
  holds : ∃ f, Meth K (aG K) "__contains__" f ∧ FnR P w K mg base CX0 6 f (spHoldsX K)
  gI : ∃ f fd, Mk K (aG K) f ∧ FnOk P w K mg base CX0 6 f fd ["self", "low", "high"] (spGInit K) ∧ FnOk P w K mg base (L2.CX P w) 6 f fd ["self", "low", "high"] (spGInitL K) ∧ FnOk P w K mg base (L2.CX P w) 6 f fd ["self", "low", "high"] (spGInitH K) ∧ FnOk P w K mg base (L2.CX P w) 6 f fd ["self", "low", "high"] (spGInitT K) ∧ Binds K fd ["self", "low", "high"] []
  choice : DefF P w K mg base "_law_choice" 2 ["_law_rng_here", "_law_some"] (spChoice K)
abbrev nRefused : List Str := ["_law_rng_here", "_law_low", "_law_high", "_law_odd", "_law_good", "_law_real_here", "_law_made", "_law_told_here", "_law_thing", "_law_bad", "_law_pairs", "_law_pair"]
def spRefused (K : PySem.W.Frag) (tbp tbr : Addr) : Sp := fun vs H Q _ => ∃ (p a c : Addr) (q r : Rat), vs = [.ref p, .ref a, .ref c] ∧ Rng H p ∧ PartAt H a q ∧ PartAt H c r ∧ Sz 200 q ∧ Sz 200 r ∧ rBelow r q = false ∧ LamX.Tabs (tbs tbp tbr) H ∧ ∀ H', LamX.ExtN (off H p) H' → Rng H' p → LamX.Tabs (tbs tbp tbr) H' → Q (.bl true) H'
theorem scRefused : FnScope nRefused ["_law_rng_here", "_law_low", "_law_high"] (defScope sRefused) := ⟨rfl, rfl, rfl, by decide +kernel, rfl, by decide +kernel, by decide +kernel⟩
theorem ok_refused {f c tbp tbr : Addr} {fd : FuncData} (F : Fun K "_law_refused_right" "_law_refused_right" sRefused f fd) (hc : fd.code = .ref c) (TB : LamX.TabB base mg c tbr) (ne : tbp ≠ tbr) (X : LY P w K mg base) : FnG P w K mg base CX0 12 f fd ["_law_rng_here", "_law_low", "_law_high"] (spRefused K tbp tbr) := by
  obtain ⟨fT, fdT, FT, gT, bT⟩ := X.W.V.told
  obtain ⟨fac, fdac, Gac, gac, bac, kac⟩ := X.ac
  obtain ⟨fan, fdan, Gan, gan, ban, kan⟩ := X.an
  obtain ⟨fax, fdax, Gax, gax, bax, kax⟩ := X.ax
  obtain ⟨fmx, fdmx, Gmx, gmx, bmx, kmx⟩ := X.mx
  obtain ⟨fws, fdws, Gws, gws, bws, kws⟩ := X.ws
  obtain ⟨fwn, fdwn, Gwn, gwn, bwn, kwn⟩ := X.wn
  obtain ⟨fic, fdic, Gic, gic, bic, kic⟩ := X.ic
  obtain ⟨fis, fdis, Gis, gis, bis, kis⟩ := X.is
  obtain ⟨fix, fdix, mix, Gix, bix⟩ := X.ix
  obtain ⟨ffx, fdfx, mfx, Gfx, bfx⟩ := X.fx
  obtain ⟨fhx, fdhx, mhx, Ghx, bhx⟩ := X.hx
  obtain ⟨fc, mc, Gc⟩ := X.holds
  obtain ⟨fG, fdG, MG, GG, GL_, GH_, GT_, bG⟩ := X.gI
  have bL_ := bG
  have bH_ := bG
  have bT_ := bG
  obtain ⟨fCh, fdCh, GCh, gCh, bCh, kCh⟩ := X.choice
  obtain ⟨fRi, fdRi, dd, MR, GRi, vd, bRi, bR2⟩ := X.W.V.Z.L.C.J.I.R.G.mR
  have T := X.W.V.Z.L.T
  have TR := X.W.V.Z.L.C.J.I.R.G.T
  have M := X.W.V.Z.D.F
  have S := X.W.V.Z.S
  obtain ⟨ocT, odT, kVT, docT, pmT, anT, cdT, ctT, oslT, rfl, lkT, hcT⟩ := FT.ex
  have kT := FT.kp
  obtain ⟨oc, od, kV, doc, pm, an, cdv, ct, osl, rfl, lk, hcd⟩ := F.ex
  obtain rfl : cdv = .ref c := hc
  refine FnG.ofBody lk hcd scRefused (fun vs H Q E h => ?_) (fun A outer sh H vs Q E gd hr h => ?_)
  · obtain ⟨p, a, c, q, r, rfl, _⟩ := h
    rfl
  · obtain ⟨p, a, cc, q, r, rfl, R, ha, hcc, sq, sr, le, tabs, k⟩ := h
    have hu := hr.units
    have r2 : Room 2 _ := hr.mono (by decide)
    have r3 : Room 3 _ := hr.mono (by decide)
    have r4 : Room 4 _ := hr.mono (by decide)
    have r6 : Room 6 _ := hr.mono (by decide)
    have r7 : Room 7 _ := hr.mono (by decide)
    have r8 : Room 8 _ := hr.mono (by decide)
    have r9 : Room 9 _ := hr.mono (by decide)
    have r11 : Room 11 _ := hr.mono (by decide)
    have one : ∀ x ∈ tbs tbp tbr, x.1 = tbr → x.2 = lamR := fun x hx e => by
      simp only [List.mem_cons, List.not_mem_nil, or_false] at hx
      rcases hx with rfl | rfl
      · exact absurd e ne
      · rfl
    suffices z : ∃ y, PSs (cxOf CX0 P w K mg base nRefused "_law_refused_right" (defScope sRefused) f (.ref c) A outer sh H E).nox (defBody sRefused) y ∧ y { nx := fun _ H' => Q .non H', rt := Q } (L2.start nRefused [.ref p, .ref a, .ref cc]) H by
      obtain ⟨y, h, q⟩ := z
      exact ⟨y, h.nox, q⟩
    refine ⟨_, pss_cons (ps_set (i := 3) scRefused.nd rfl (Or.inr rfl) (pe_call GCh r2 rfl gCh kCh bCh .nil pass0 (pa_cons (pv 0) (pa_cons (pe_lst (pa_cons pe_non (pa_cons pe_int (pa_cons pe_str (pa_cons (pe_tup pa_nil) (pa_cons (pe_tup (pa_cons pe_int pa_nil)) (pa_cons (pe_tup (pa_cons pe_int (pa_cons pe_int pa_nil))) (pa_cons (pe_tup (pa_cons pe_int (pa_cons pe_int pa_nil))) (pa_cons (pe_lst (pa_cons pe_int (pa_cons pe_bl pa_nil))) (pa_cons (pe_tup (pa_cons pe_bl (pa_cons pe_bl pa_nil))) (pa_cons (pe_tup (pa_cons pe_str (pa_cons pe_bl pa_nil))) (pa_cons (pe_tup (pa_cons pe_int (pa_cons pe_non pa_nil))) pa_nil)))))))))))) pa_nil)))) (pss_cons (ps_asg (pe_tup (pa_cons (pe_tup (pa_cons pe_int (pa_cons pe_bl pa_nil))) (pa_cons (pe_make MR GRi r3 rfl TR.gR bR2 .nil pass0 (pa_cons (pe_ix ix_tup (pv 1) pe_int (fun _ _ => rfl)) (pa_cons (pe_ix ix_tup (pv 1) pe_int (fun _ _ => rfl)) pa_nil))) (pa_cons (pe_make MG GG r7 rfl T.gG bG .nil pass0 (pa_cons pe_int (pa_cons pe_int pa_nil))) pa_nil)))) (pg_tup (by rfl) (pgs_cons (pg_name (i := 4) scRefused.nd rfl (.inr rfl)) (pgs_cons (pg_name (i := 5) scRefused.nd rfl (.inr rfl)) (pgs_cons (pg_name (i := 6) scRefused.nd rfl (.inr rfl)) pgs_nil))))) (pss_cons (ps_set (i := 7) scRefused.nd rfl (Or.inl rfl) (pe_lst (pa_cons (pe_told (T := tbs tbp tbr) (TT := TT11 K) (k := 9) rfl gT kT lkT hcT bT scTold rfl (.inl rfl) (told11 (k := 6) rfl X.W.V.X S X.W.V.RR M.repr gd) TB rfl (List.mem_cons_of_mem _ List.mem_cons_self) one r11 (LamX.lamS_by (sc := defScope sRefused) (by decide +kernel)) rfl (fun _ _ _ _ _ => rfl) (fun A outer s H E f c' hA hr9 => (pe_call Gac (hr9.mono (by decide)) rfl gac kac bac .nil (passE (takes_of rfl rfl rfl rfl)) (pa_cons (pv 5) (pa_cons (pv 3) pa_nil))))) (pa_cons (pe_told (T := tbs tbp tbr) (TT := TT11 K) (k := 9) rfl gT kT lkT hcT bT scTold rfl (.inl rfl) (told11 (k := 6) rfl X.W.V.X S X.W.V.RR M.repr gd) TB rfl (List.mem_cons_of_mem _ List.mem_cons_self) one r11 (LamX.lamS_by (sc := defScope sRefused) (by decide +kernel)) rfl (fun _ _ _ _ _ => rfl) (fun A outer s H E f c' hA hr9 => (pe_call Gax (hr9.mono (by decide)) rfl gax kax bax .nil (passE (takes_of rfl rfl rfl rfl)) (pa_cons (pv 4) (pa_cons (pv 3) pa_nil))))) pa_nil)))) (pss_cons (ps_expr (pe_bm PySem.F.plainAttrs_list PySem.F.slot_list_append PySem.F.type_list_append mt_append (pv 7) (pa_cons (pe_told (T := tbs tbp tbr) (TT := TT11 K) (k := 9) rfl gT kT lkT hcT bT scTold rfl (.inl rfl) (told11 (k := 6) rfl X.W.V.X S X.W.V.RR M.repr gd) TB rfl (List.mem_cons_of_mem _ List.mem_cons_self) one r11 (LamX.lamS_by (sc := defScope sRefused) (by decide +kernel)) rfl (fun _ _ _ _ _ => rfl) (fun A outer s H E f c' hA hr9 => (pe_call Gax (hr9.mono (by decide)) rfl gax kax bax .nil (passE (takes_of rfl rfl rfl rfl)) (pa_cons (pv 3) (pa_cons pe_non pa_nil))))) pa_nil))) (pss_cons (ps_expr (pe_bm PySem.F.plainAttrs_list PySem.F.slot_list_append PySem.F.type_list_append mt_append (pv 7) (pa_cons (pe_told (T := tbs tbp tbr) (TT := TT11 K) (k := 9) rfl gT kT lkT hcT bT scTold rfl (.inl rfl) (told11 (k := 6) rfl X.W.V.X S X.W.V.RR M.repr gd) TB rfl (List.mem_cons_of_mem _ List.mem_cons_self) one r11 (LamX.lamS_by (sc := defScope sRefused) (by decide +kernel)) rfl (fun _ _ _ _ _ => rfl) (fun A outer s H E f c' hA hr9 => (pe_meth (pv 6) T.cl mix Gix (hr9.mono (by decide)) bix .nil (passE (takes_of rfl rfl rfl rfl)) (pa_cons (pv 3) pa_nil)))) pa_nil))) (pss_cons (ps_expr (pe_bm PySem.F.plainAttrs_list PySem.F.slot_list_append PySem.F.type_list_append mt_append (pv 7) (pa_cons (pe_told (T := tbs tbp tbr) (TT := TT11 K) (k := 9) rfl gT kT lkT hcT bT scTold rfl (.inl rfl) (told11 (k := 6) rfl X.W.V.X S X.W.V.RR M.repr gd) TB rfl (List.mem_cons_of_mem _ List.mem_cons_self) one r11 (LamX.lamS_by (sc := defScope sRefused) (by decide +kernel)) rfl (fun _ _ _ _ _ => rfl) (fun A outer s H E f c' hA hr9 => (pe_meth (pv 6) T.cl mfx Gfx (hr9.mono (by decide)) bfx .nil (passE (takes_of rfl rfl rfl rfl)) (pa_cons (pv 3) pa_nil)))) pa_nil))) (pss_cons (ps_if (PW.pt (pw_or (pt_cmpR (op_neD hu) (pv 7) (pe_op op_rep (pe_lst (pa_cons (pe_lst (pa_cons pe_str (pa_cons (pe_callB (call_repZ S X.W.V.RR gd (roomH r4)) (by rfl) M.repr (by decide +kernel) (pa_cons (pv 3) pa_nil)) pa_nil))) pa_nil)) pe_int) (nomark _)) (pw_or (pt_cmpR op_isnB (pe_call Gic r3 rfl gic kic bic .nil pass0 (pa_cons (pv 3) pa_nil)) pe_bl (nomark _)) (pw_or1 (pt_cmpR op_isnB (pe_meth (pv 6) T.cl mhx Ghx r9 bhx .nil pass0 (pa_cons (pv 3) pa_nil)) pe_bl (nomark _)))))) (pss_one (ps_ret pe_bl)) pss_nil) (pss_cons (ps_for PassesOwn.never rfl (pi_list (pe_lst (pa_cons (pv 3) (pa_cons (pe_tup (pa_cons (pv 4) (pa_cons (pv 4) pa_nil))) (pa_cons (pe_tup (pa_cons (pv 4) (pa_cons (pv 3) pa_nil))) (pa_cons (pe_lst (pa_cons (pv 4) (pa_cons (pe_tup (pa_cons pe_int (pa_cons pe_bl pa_nil))) pa_nil))) (pa_cons (pe_tup (pa_cons (pv 4) (pa_cons (pe_tup (pa_cons pe_int (pa_cons pe_bl pa_nil))) (pa_cons (pv 4) pa_nil)))) pa_nil))))))) (pg_name (i := 8) scRefused.nd rfl (Or.inr rfl)) (pss_cons (ps_if (PW.pt (pw_or (pt_cmpR (op_neD hu) (pe_told (T := tbs tbp tbr) (TT := TT11 K) (k := 9) rfl gT kT lkT hcT bT scTold rfl (.inl rfl) (told11 (k := 6) rfl X.W.V.X S X.W.V.RR M.repr gd) TB rfl (List.mem_cons_of_mem _ List.mem_cons_self) one r11 (LamX.lamS_by (sc := defScope sRefused) (by decide +kernel)) rfl (fun _ _ _ _ _ => rfl) (fun A outer s H E f c' hA hr9 => (pe_call Gmx (hr9.mono (by decide)) rfl gmx kmx bmx .nil (passE (takes_of rfl rfl rfl rfl)) (pa_cons (pv 8) pa_nil)))) (pe_lst (pa_cons pe_str (pa_cons (pe_callB (call_repZ S X.W.V.RR gd (roomH r4)) (by rfl) M.repr (by decide +kernel) (pa_cons (pv 8) pa_nil)) pa_nil))) (nomark _)) (pw_or1 (pt_cmpR op_isnB (pe_call Gis r8 rfl gis kis bis .nil pass0 (pa_cons (pv 8) pa_nil)) pe_bl (nomark _))))) (pss_one (ps_ret pe_bl)) pss_nil) (pss_one (ps_if (PW.pt (pw_or (pt_cmpR (op_neD hu) (pe_told (T := tbs tbp tbr) (TT := TT11 K) (k := 9) rfl gT kT lkT hcT bT scTold rfl (.inl rfl) (told11 (k := 6) rfl X.W.V.X S X.W.V.RR M.repr gd) TB rfl (List.mem_cons_of_mem _ List.mem_cons_self) one r11 (LamX.lamS_by (sc := defScope sRefused) (by decide +kernel)) rfl (fun _ _ _ _ _ => rfl) (fun A outer s H E f c' hA hr9 => (pe_call Gws (hr9.mono (by decide)) rfl gws kws bws .nil (passE (takes_of rfl rfl rfl rfl)) (pa_cons pe_int (pa_cons (pv 8) pa_nil))))) (pe_lst (pa_cons pe_str (pa_cons (pe_callB (call_repZ S X.W.V.RR gd (roomH r4)) (by rfl) M.repr (by decide +kernel) (pa_cons (pv 8) pa_nil)) pa_nil))) (nomark _)) (pw_or1 (pt_cmpR op_isnB (pe_meth (pv 6) T.cl mhx Ghx r9 bhx .nil pass0 (pa_cons (pv 8) pa_nil)) pe_bl (nomark _))))) (pss_one (ps_ret pe_bl)) pss_nil)))) (pss_cons (ps_set (i := 9) scRefused.nd rfl (Or.inr rfl) (pe_call GCh r2 rfl gCh kCh bCh .nil pass0 (pa_cons (pv 0) (pa_cons (pe_lst (pa_cons pe_non (pa_cons pe_bl (pa_cons pe_str (pa_cons (pe_lst pa_nil) (pa_cons (pe_tup (pa_cons pe_int (pa_cons pe_int pa_nil))) (pa_cons pe_dnewK pa_nil))))))) pa_nil)))) (pss_cons (ps_set (i := 7) scRefused.nd rfl (Or.inl rfl) (pe_lst (pa_cons (pe_told (T := tbs tbp tbr) (TT := TT11 K) (k := 9) rfl gT kT lkT hcT bT scTold rfl (.inl rfl) (told11 (k := 6) rfl X.W.V.X S X.W.V.RR M.repr gd) TB rfl (List.mem_cons_of_mem _ List.mem_cons_self) one r11 (LamX.lamS_by (sc := defScope sRefused) (by decide +kernel)) rfl (fun _ _ _ _ _ => rfl) (fun A outer s H E f c' hA hr9 => (pe_call Gan (hr9.mono (by decide)) rfl gan kan ban .nil (passE (takes_of rfl rfl rfl rfl)) (pa_cons (pv 9) (pa_cons (pv 3) pa_nil))))) (pa_cons (pe_told (T := tbs tbp tbr) (TT := TT11 K) (k := 9) rfl gT kT lkT hcT bT scTold rfl (.inl rfl) (told11 (k := 6) rfl X.W.V.X S X.W.V.RR M.repr gd) TB rfl (List.mem_cons_of_mem _ List.mem_cons_self) one r11 (LamX.lamS_by (sc := defScope sRefused) (by decide +kernel)) rfl (fun _ _ _ _ _ => rfl) (fun A outer s H E f c' hA hr9 => (pe_call Gwn (hr9.mono (by decide)) rfl gwn kwn bwn .nil (passE (takes_of rfl rfl rfl rfl)) (pa_cons (pv 9) (pa_cons (pv 3) pa_nil))))) pa_nil)))) (pss_cons (ps_expr (pe_bm PySem.F.plainAttrs_list PySem.F.slot_list_append PySem.F.type_list_append mt_append (pv 7) (pa_cons (pe_told (T := tbs tbp tbr) (TT := TT11 K) (k := 9) rfl gT kT lkT hcT bT scTold rfl (.inl rfl) (told11 (k := 6) rfl X.W.V.X S X.W.V.RR M.repr gd) TB rfl (List.mem_cons_of_mem _ List.mem_cons_self) one r11 (LamX.lamS_by (sc := defScope sRefused) (by decide +kernel)) rfl (fun _ _ _ _ _ => rfl) (fun A outer s H E f c' hA hr9 => (pe_make MG GL_ (hr9.mono (by decide)) rfl T.gG bL_ .nil (passE (takes_of rfl rfl rfl rfl)) (pa_cons (pv 9) (pa_cons pe_non pa_nil))))) pa_nil))) (pss_cons (ps_expr (pe_bm PySem.F.plainAttrs_list PySem.F.slot_list_append PySem.F.type_list_append mt_append (pv 7) (pa_cons (pe_told (T := tbs tbp tbr) (TT := TT11 K) (k := 9) rfl gT kT lkT hcT bT scTold rfl (.inl rfl) (told11 (k := 6) rfl X.W.V.X S X.W.V.RR M.repr gd) TB rfl (List.mem_cons_of_mem _ List.mem_cons_self) one r11 (LamX.lamS_by (sc := defScope sRefused) (by decide +kernel)) rfl (fun _ _ _ _ _ => rfl) (fun A outer s H E f c' hA hr9 => (pe_make MG GH_ (hr9.mono (by decide)) rfl T.gG bH_ .nil (passE (takes_of rfl rfl rfl rfl)) (pa_cons pe_int (pa_cons (pv 9) pa_nil))))) pa_nil))) (pss_cons (ps_if (PW.pt (pw_or (pt_cmpR (op_neD hu) (pv 7) (pe_op op_rep (pe_lst (pa_cons (pe_lst (pa_cons pe_str (pa_cons (pe_callB (call_repZ S X.W.V.RR gd (roomH r4)) (by rfl) M.repr (by decide +kernel) (pa_cons (pv 9) pa_nil)) pa_nil))) pa_nil)) pe_int) (nomark _)) (pw_or1 (pt_cmpR (op_inO mc Gc r6 pass0) (pv 9) (pv 6) (by with_unfolding_all rfl))))) (pss_one (ps_ret pe_bl)) pss_nil) (pss_cons (ps_set (i := 10) scRefused.nd rfl (Or.inl rfl) (pe_lst (pa_cons (pe_tup (pa_cons pe_int (pa_cons pe_int pa_nil))) (pa_cons (pe_tup (pa_cons (pe_make MR GRi r3 rfl TR.gR bR2 .nil pass0 (pa_cons pe_int (pa_cons pe_int pa_nil))) (pa_cons pe_int pa_nil))) (pa_cons (pe_tup (pa_cons pe_int (pa_cons (pe_make MR GRi r3 rfl TR.gR bR2 .nil pass0 (pa_cons pe_int (pa_cons pe_int pa_nil))) pa_nil))) (pa_cons (pe_tup (pa_cons (pe_op op_pow pe_int pe_int) (pa_cons (pe_un un_neg pe_int) pa_nil))) pa_nil)))))) (pss_cons (ps_for PassesOwn.never rfl (pi_list (pv 10)) (pg_name (i := 11) scRefused.nd rfl (Or.inr rfl)) (pss_one (ps_if (pt_cmpR (op_neD hu) (pe_told (T := tbs tbp tbr) (TT := TT11 K) (k := 9) rfl gT kT lkT hcT bT scTold rfl (.inl rfl) (told11 (k := 6) rfl X.W.V.X S X.W.V.RR M.repr gd) TB rfl (List.mem_cons_of_mem _ List.mem_cons_self) one r11 (LamX.lamS_by (sc := defScope sRefused) (by decide +kernel)) rfl (fun _ _ _ _ _ => rfl) (fun A outer s H E f c' hA hr9 => (pe_make MG GT_ (hr9.mono (by decide)) rfl T.gG bT_ .nil (passE (takes_of rfl rfl rfl rfl)) (pa_cons (pe_ix (show IxR _ (rIxT K) from ix_tup) (pv 11) pe_int (fun _ _ => rfl)) (pa_cons (pe_ix (show IxR _ (rIxT K) from ix_tup) (pv 11) pe_int (fun _ _ => rfl)) pa_nil))))) (pe_lst (pa_cons pe_str (pa_cons (pe_callB (call_repZ S X.W.V.RR gd (roomH r4)) (by rfl) M.repr (by decide +kernel) (pa_cons (pv 11) pa_nil)) pa_nil))) (nomark _)) (pss_one (ps_ret pe_bl)) pss_nil))) (pss_cons (ps_if (pt_cmpR (op_eqD hu) (pv 1) (pv 2) (nomark _)) (pss_one (ps_ret pe_bl)) pss_nil) (pss_one (ps_ret (pe_cmpR (op_eqD hu) (pe_told (T := tbs tbp tbr) (TT := TT11 K) (k := 9) rfl gT kT lkT hcT bT scTold rfl (.inl rfl) (told11 (k := 6) rfl X.W.V.X S X.W.V.RR M.repr gd) TB rfl (List.mem_cons_of_mem _ List.mem_cons_self) one r11 (LamX.lamS_by (sc := defScope sRefused) (by decide +kernel)) rfl (fun _ _ _ _ _ => rfl) (fun A outer s H E f c' hA hr9 => (pe_make MG GT_ (hr9.mono (by decide)) rfl T.gG bT_ .nil (passE (takes_of rfl rfl rfl rfl)) (pa_cons (pe_make MR GRi (hr9.mono (by decide)) rfl TR.gR bR2 .nil pass0 (pa_cons (pe_ix (show IxR _ (rIxT K) from ix_tup) (pv 2) pe_int (fun _ _ => rfl)) (pa_cons (pe_ix (show IxR _ (rIxT K) from ix_tup) (pv 2) pe_int (fun _ _ => rfl)) pa_nil))) (pa_cons (pv 5) pa_nil))))) (pe_lst (pa_cons pe_str (pa_cons (pe_callB (call_repZ S X.W.V.RR gd (roomH r4)) (by rfl) M.repr (by decide +kernel) (pa_cons (pe_tup (pa_cons (pe_make MR GRi r3 rfl TR.gR bR2 .nil pass0 (pa_cons (pe_ix ix_tup (pv 2) pe_int (fun _ _ => rfl)) (pa_cons (pe_ix ix_tup (pv 2) pe_int (fun _ _ => rfl)) pa_nil))) (pa_cons (pv 5) pa_nil))) pa_nil)) pa_nil))) (nomark _))))))))))))))))))), ?_⟩
    have int_num : ∀ {G : Hp} {i : Int}, NumAt K G (.int i) (i : Rat) := fun {G i} => .inl ⟨i, rfl, rfl⟩
    have tO : ∀ {G G' : Hp}, LamX.Tabs (tbs tbp tbr) G → Rng G p → Same (off G p) G' → LamX.Tabs (tbs tbp tbr) G' := by
      intro G G' t R' s
      obtain ⟨x, y, ep, _⟩ := R'
      exact Tabs.same (Tabs.offP t ep) s
    refine ⟨_, rfl, (by show 0 ≤ sizeLine; decide), fun o0 no0 => ⟨(by show 1 ≤ sizeLine; decide), fun o1 no1 => ⟨(by show 2 ≤ sizeLine; decide), fun o2 no2 => ⟨(by show 2 ≤ sizeLine; decide), fun o3 no3 => ⟨(by show 2 ≤ sizeLine; decide), fun o4 no4 => ⟨(by show 2 ≤ sizeLine; decide), fun o5 no5 => ⟨(by show 2 ≤ sizeLine; decide), fun o6 no6 => ⟨(by show 2 ≤ sizeLine; decide), fun o7 no7 => ⟨(by show 11 ≤ sizeLine; decide), fun oL noL => ?_⟩⟩⟩⟩⟩⟩⟩⟩⟩
    have so0 := same_new (o := .tup []) no0
    have fo0 : upd H o0 (.tup []) o0 = some (.tup []) := upd_same
    generalize upd H o0 (.tup []) = Ho0 at *
    have so1 := same_new (o := .tup [V.int 1]) no1
    have fo1 : upd Ho0 o1 (.tup [V.int 1]) o1 = some (.tup [V.int 1]) := upd_same
    generalize upd Ho0 o1 (.tup [V.int 1]) = Ho1 at *
    have so2 := same_new (o := .tup [V.int 1, .int 0]) no2
    have fo2 : upd Ho1 o2 (.tup [V.int 1, .int 0]) o2 = some (.tup [V.int 1, .int 0]) := upd_same
    generalize upd Ho1 o2 (.tup [V.int 1, .int 0]) = Ho2 at *
    have so3 := same_new (o := .tup [V.int 1, .int 1]) no3
    have fo3 : upd Ho2 o3 (.tup [V.int 1, .int 1]) o3 = some (.tup [V.int 1, .int 1]) := upd_same
    generalize upd Ho2 o3 (.tup [V.int 1, .int 1]) = Ho3 at *
    have so4 := same_new (o := .lst [V.int 1, .bl true]) no4
    have fo4 : upd Ho3 o4 (.lst [V.int 1, .bl true]) o4 = some (.lst [V.int 1, .bl true]) := upd_same
    generalize upd Ho3 o4 (.lst [V.int 1, .bl true]) = Ho4 at *
    have so5 := same_new (o := .tup [V.bl true, .bl true]) no5
    have fo5 : upd Ho4 o5 (.tup [V.bl true, .bl true]) o5 = some (.tup [V.bl true, .bl true]) := upd_same
    generalize upd Ho4 o5 (.tup [V.bl true, .bl true]) = Ho5 at *
    have so6 := same_new (o := .tup [V.str "1", .bl false]) no6
    have fo6 : upd Ho5 o6 (.tup [V.str "1", .bl false]) o6 = some (.tup [V.str "1", .bl false]) := upd_same
    generalize upd Ho5 o6 (.tup [V.str "1", .bl false]) = Ho6 at *
    have so7 := same_new (o := .tup [V.int 1, .non]) no7
    have fo7 : upd Ho6 o7 (.tup [V.int 1, .non]) o7 = some (.tup [V.int 1, .non]) := upd_same
    generalize upd Ho6 o7 (.tup [V.int 1, .non]) = Ho7 at *
    have soL := same_new (o := .lst [V.non, .int 0, .str "", .ref o0, .ref o1, .ref o2, .ref o3, .ref o4, .ref o5, .ref o6, .ref o7]) noL
    have foL : upd Ho7 oL (.lst [V.non, .int 0, .str "", .ref o0, .ref o1, .ref o2, .ref o3, .ref o4, .ref o5, .ref o6, .ref o7]) oL = some (.lst [V.non, .int 0, .str "", .ref o0, .ref o1, .ref o2, .ref o3, .ref o4, .ref o5, .ref o6, .ref o7]) := upd_same
    generalize upd Ho7 oL (.lst [V.non, .int 0, .str "", .ref o0, .ref o1, .ref o2, .ref o3, .ref o4, .ref o5, .ref o6, .ref o7]) = HoL at *
    have go0 := (soL _ _ (so7 _ _ (so6 _ _ (so5 _ _ (so4 _ _ (so3 _ _ (so2 _ _ (so1 _ _ fo0))))))))
    have go1 := (soL _ _ (so7 _ _ (so6 _ _ (so5 _ _ (so4 _ _ (so3 _ _ (so2 _ _ fo1)))))))
    have go2 := (soL _ _ (so7 _ _ (so6 _ _ (so5 _ _ (so4 _ _ (so3 _ _ fo2))))))
    have go3 := (soL _ _ (so7 _ _ (so6 _ _ (so5 _ _ (so4 _ _ fo3)))))
    have go4 := (soL _ _ (so7 _ _ (so6 _ _ (so5 _ _ fo4))))
    have go5 := (soL _ _ (so7 _ _ (so6 _ _ fo5)))
    have go6 := (soL _ _ (so7 _ _ fo6))
    have go7 := (soL _ _ fo7)
    have soA : Same H HoL := ((((((((so0.trans so1).trans so2).trans so3).trans so4).trans so5).trans so6).trans so7).trans soL)
    have RL := R.same soA
    have po0 : o0 ≠ p := R.ne_new no0
    have po1 : o1 ≠ p := Rng.ne_new (R.same so0) no1
    have po2 : o2 ≠ p := Rng.ne_new (R.same (so0.trans so1)) no2
    have po3 : o3 ≠ p := Rng.ne_new (R.same ((so0.trans so1).trans so2)) no3
    have po4 : o4 ≠ p := Rng.ne_new (R.same (((so0.trans so1).trans so2).trans so3)) no4
    have po5 : o5 ≠ p := Rng.ne_new (R.same ((((so0.trans so1).trans so2).trans so3).trans so4)) no5
    have po6 : o6 ≠ p := Rng.ne_new (R.same (((((so0.trans so1).trans so2).trans so3).trans so4).trans so5)) no6
    have po7 : o7 ≠ p := Rng.ne_new (R.same ((((((so0.trans so1).trans so2).trans so3).trans so4).trans so5).trans so6)) no7
    have poL : oL ≠ p := Rng.ne_new (R.same (((((((so0.trans so1).trans so2).trans so3).trans so4).trans so5).trans so6).trans so7)) noL
    refine ⟨p, oL, _, rfl, RL, foL, poL, by show 0 < 11; decide, by show 11 < 1000; decide, fun v Hf mv kp Rf => ?_⟩
    have kd : Same (off HoL p) Hf := off_kp kp
    have odd1 : ∃ pd, Odd p HoL v pd := by
      simp only [List.mem_cons, List.not_mem_nil, or_false] at mv
      rcases mv with rfl | rfl | rfl | rfl | rfl | rfl | rfl | rfl | rfl | rfl | rfl
      · exact ⟨_, .inl .non⟩
      · exact ⟨_, .inl .z⟩
      · exact ⟨_, .inl .e⟩
      · exact ⟨_, .inr ⟨o0, _, rfl, po0, go0, .t0⟩⟩
      · exact ⟨_, .inr ⟨o1, _, rfl, po1, go1, .t1⟩⟩
      · exact ⟨_, .inr ⟨o2, _, rfl, po2, go2, .t10⟩⟩
      · exact ⟨_, .inr ⟨o3, _, rfl, po3, go3, .t11⟩⟩
      · exact ⟨_, .inr ⟨o4, _, rfl, po4, go4, .l1⟩⟩
      · exact ⟨_, .inr ⟨o5, _, rfl, po5, go5, .tT⟩⟩
      · exact ⟨_, .inr ⟨o6, _, rfl, po6, go6, .tS⟩⟩
      · exact ⟨_, .inr ⟨o7, _, rfl, po7, go7, .tN⟩⟩
    obtain ⟨pd, odd1⟩ := odd1
    replace odd1 := odd1.offp.ext (same_extN kd)
    have koff : Same (off H p) Hf := fun y o e => kd y o (by
      obtain ⟨x1, x2⟩ := off_some e
      rw [off_ne x1]
      exact soA y o x2)
    have tabsF := tO tabs R koff
    have haF := (ha.offR R).same koff
    have hcF := (hcc.offR R).same koff
    clear so0 fo0 go0 no0 po0 so1 fo1 go1 no1 po1 so2 fo2 go2 no2 po2 so3 fo3 go3 no3 po3 so4 fo4 go4 no4 po4 so5 fo5 go5 no5 po5 so6 fo6 go6 no6 po6 so7 fo7 go7 no7 po7 soL foL soA noL poL mv kp kd RL
    refine ⟨(by show 2 ≤ sizeLine; decide), fun gg ngg => ?_⟩
    have sgg := same_new (o := .tup [V.int 1, .bl false]) ngg
    have fgg : upd Hf gg (.tup [V.int 1, .bl false]) gg = some (.tup [V.int 1, .bl false]) := upd_same
    generalize upd Hf gg (.tup [V.int 1, .bl false]) = Hg at *
    have aG0 := haF.same sgg
    refine ⟨_, rfl, a, _, _, _, rfl, rfl, SqT.of aG0, rfl, _, rfl, a, _, _, _, rfl, rfl, SqT.of aG0, rfl, ?_⟩
    intro re dre nre ndre nere
    refine made_ratQ nre ndre sq (by decide) fun Hr kr hre => ⟨rfl, ?_⟩
    have z01 : rBelow ((1 : Int) : Rat) ((0 : Int) : Rat) = false := rBelow_not.mpr (by decide)
    have sz0 : Sz 4 ((0 : Int) : Rat) := ⟨by decide, by decide⟩
    have sz1 : Sz 4 ((1 : Int) : Rat) := ⟨by decide, by decide⟩
    intro g dg ng ngd neg
    refine made_rngR ng ngd neg (int_num (i := 0)) (int_num (i := 1)) (sz_big sz0) (sz_big sz1) z01 fun Hm km hg => ⟨rfl, (by show 3 ≤ sizeLine; decide), fun tq nq => ?_⟩
    have stq := same_new (o := .tup [V.ref gg, .ref re, .ref g]) nq
    have ftq : upd Hm tq (.tup [V.ref gg, .ref re, .ref g]) tq = some (.tup [V.ref gg, .ref re, .ref g]) := upd_same
    have kfm := ((sgg.trans kr).trans km).trans stq
    have egg0 := stq _ _ (km _ _ (kr _ _ fgg))
    have hre0 := (hre.same km).same stq
    have hg0 := hg.same stq
    generalize upd Hm tq (.tup [V.ref gg, .ref re, .ref g]) = G5 at *
    refine ⟨tq, _, rfl, SqT.of ftq, rfl, _, _, rfl, _, _, rfl, _, _, rfl, rfl, ?_⟩
    have x05 : LamX.ExtN (off H p) G5 := same_extN (koff.trans kfm)
    have R5 := Rf.same kfm
    have od5 := odd1.ext (same_extN kfm)
    have tb5 := Tabs.same tabsF kfm
    have ha5 := haF.same kfm
    have hc5 := hcF.same kfm
    clear sgg fgg stq ftq kr km kfm hre hg nq ng ngd neg nre ndre nere ngg odd1 tabsF haF hcF aG0 koff Rf
    have b5 : BX (tbs tbp tbr) G5 G5 := ⟨LamX.ExtN.refl _, tb5⟩
    have gg_ : ∀ {G}, BX (tbs tbp tbr) G5 G → G gg = some (.tup [.int 1, .bl false]) := fun x => x.1 _ _ egg0 (fun _ z => by cases z)
    have re_ : ∀ {G}, BX (tbs tbp tbr) G5 G → RatAt K G re q := fun x => hre0.ext x.1
    have g_ : ∀ {G}, BX (tbs tbp tbr) G5 G → RngAt K G g ((0 : Int) : Rat) ((1 : Int) : Rat) := fun x => hg0.ext x.1
    have od_ : ∀ {G}, BX (tbs tbp tbr) G5 G → Odd p G v pd := fun x => od5.ext x.1
    have rp_ : ∀ {G}, BX (tbs tbp tbr) G5 G → RepAt K G v pd.shown := fun x => (od_ x).shows.rep (od_ x).dq
    have okp : PyData.strOk pd.shown = true := od5.shows.ok
    refine ⟨b5.tb, fun G1 x1 t1 => ?_⟩
    have w1 := b5.stE x1 t1
    refine tt_val .cut (rp_ w1) (fun E H1 R s o => ?_) (fun ra G2 s2 n2 e2 => ?_)
    · have z := w1.stS s
      exact ⟨_, rfl, _, rfl, .ref re, v, q, rfl, .inr ⟨re, rfl, re_ z⟩, (od_ z).notC X.N, o⟩
    have w2 := w1.stS s2
    refine ⟨w2.tb, fun G3 x3 t3 => ?_⟩
    have w3 := w2.stE x3 t3
    have ea := x3 _ _ e2 fun _ z => by cases z
    refine tt_val .cut (rp_ w3) (fun E H1 R s o => ?_) (fun rb G4 s4 n4 eb => ⟨(by show 2 ≤ sizeLine; decide), fun W1 nW => ?_⟩)
    · have z := w3.stS s
      exact ⟨_, rfl, _, rfl, .ref gg, v, rfl, .inr ⟨1, false, gD_cut (gg_ z), (od_ z).notC X.N, o⟩⟩
    have w4 := w3.stS s4
    have nW0 := w4.new nW
    replace ea := s4 _ _ ea
    have s5 := same_new (o := .lst [V.ref ra, .ref rb]) nW
    have eW : upd G4 W1 (.lst [V.ref ra, .ref rb]) W1 = some (.lst [V.ref ra, .ref rb]) := upd_same
    have w5 := w4.stS s5
    replace ea := s5 _ _ ea
    replace eb := s5 _ _ eb
    generalize upd G4 W1 (.lst [V.ref ra, .ref rb]) = G5a at *
    clear x1 t1 w1 s2 n2 e2 w2 x3 t3 w3 s4 n4 w4 nW s5
    have h_ra := ea
    have h_rb := eb
    clear ea eb
    refine ⟨_, rfl, .inl ⟨rfl, _, SqL.of eW⟩, w5.tb, fun G1 x1 t1 => ?_⟩
    have w1 := w5.stE x1 t1
    refine tt_val .cut (rp_ w1) (fun E H1 R s o => ?_) (fun r3 G2 s2 n2 e2 => ?_)
    · have z := w1.stS s
      exact ⟨_, rfl, v, .non, rfl, .inl ⟨(od_ z).notC X.N, o⟩⟩
    have w2 := w1.stS s2
    have eW2 := s2 _ _ (x1 _ _ eW fun _ z => by cases z)
    have q_ra := s2 _ _ (x1 _ _ h_ra fun _ z => by cases z)
    have q_rb := s2 _ _ (x1 _ _ h_rb fun _ z => by cases z)
    refine ⟨W1, _, _, rfl, rfl, eW2, by show 2 < sizeLine; decide, ?_⟩
    have w3 := w2.upL (o := .lst ([V.ref ra, .ref rb] ++ [.ref r3])) nW0 eW2
    have no : ∀ {r : Addr} {x y : Str}, G2 r = some (.lst [.str x, .str y]) → upd G2 W1 (.lst ([V.ref ra, .ref rb] ++ [.ref r3])) r = some (.lst [.str x, .str y]) := fun {r x y} e => by
      rw [upd_ne (fun z => by rw [z, eW2] at e; cases e)]
      exact e
    have eW3 : upd G2 W1 (.lst ([V.ref ra, .ref rb] ++ [.ref r3])) W1 = some (.lst [V.ref ra, .ref rb, .ref r3]) := upd_same
    replace h_ra := no q_ra
    replace h_rb := no q_rb
    have h_r3 := no e2
    generalize upd G2 W1 (.lst ([V.ref ra, .ref rb] ++ [.ref r3])) = G5b at *
    clear no x1 t1 w1 s2 n2 e2 w2 eW2 q_ra q_rb eW w5
    have w5 := w3
    have eW := eW3
    clear w3 eW3
    refine ⟨_, rfl, .inl ⟨rfl, _, SqL.of eW⟩, w5.tb, fun G1 x1 t1 => ?_⟩
    have w1 := w5.stE x1 t1
    refine tt_val .cut (rp_ w1) (fun E H1 R s o => ?_) (fun r4 G2 s2 n2 e2 => ?_)
    · have z := w1.stS s
      obtain ⟨_, dx, _, _, es, _⟩ := id (g_ z)
      exact ⟨_, rfl, g, dx, _, rfl, es, rfl, _, rfl, g, v, ((0 : Int) : Rat), ((1 : Int) : Rat), rfl, g_ z, (od_ z).notC X.N, o⟩
    have w2 := w1.stS s2
    have eW2 := s2 _ _ (x1 _ _ eW fun _ z => by cases z)
    have q_ra := s2 _ _ (x1 _ _ h_ra fun _ z => by cases z)
    have q_rb := s2 _ _ (x1 _ _ h_rb fun _ z => by cases z)
    have q_r3 := s2 _ _ (x1 _ _ h_r3 fun _ z => by cases z)
    refine ⟨W1, _, _, rfl, rfl, eW2, by show 3 < sizeLine; decide, ?_⟩
    have w3 := w2.upL (o := .lst ([V.ref ra, .ref rb, .ref r3] ++ [.ref r4])) nW0 eW2
    have no : ∀ {r : Addr} {x y : Str}, G2 r = some (.lst [.str x, .str y]) → upd G2 W1 (.lst ([V.ref ra, .ref rb, .ref r3] ++ [.ref r4])) r = some (.lst [.str x, .str y]) := fun {r x y} e => by
      rw [upd_ne (fun z => by rw [z, eW2] at e; cases e)]
      exact e
    have eW3 : upd G2 W1 (.lst ([V.ref ra, .ref rb, .ref r3] ++ [.ref r4])) W1 = some (.lst [V.ref ra, .ref rb, .ref r3, .ref r4]) := upd_same
    replace h_ra := no q_ra
    replace h_rb := no q_rb
    replace h_r3 := no q_r3
    have h_r4 := no e2
    generalize upd G2 W1 (.lst ([V.ref ra, .ref rb, .ref r3] ++ [.ref r4])) = G5b at *
    clear no x1 t1 w1 s2 n2 e2 w2 eW2 q_ra q_rb q_r3 eW w5
    have w5 := w3
    have eW := eW3
    clear w3 eW3
    refine ⟨_, rfl, .inl ⟨rfl, _, SqL.of eW⟩, w5.tb, fun G1 x1 t1 => ?_⟩
    have w1 := w5.stE x1 t1
    refine tt_val .cut (rp_ w1) (fun E H1 R s o => ?_) (fun r5 G2 s2 n2 e2 => ?_)
    · have z := w1.stS s
      obtain ⟨_, dx, _, _, es, _⟩ := id (g_ z)
      exact ⟨_, rfl, g, dx, _, rfl, es, rfl, _, rfl, g, v, ((0 : Int) : Rat), ((1 : Int) : Rat), rfl, g_ z, (od_ z).notC X.N, o⟩
    have w2 := w1.stS s2
    have eW2 := s2 _ _ (x1 _ _ eW fun _ z => by cases z)
    have q_ra := s2 _ _ (x1 _ _ h_ra fun _ z => by cases z)
    have q_rb := s2 _ _ (x1 _ _ h_rb fun _ z => by cases z)
    have q_r3 := s2 _ _ (x1 _ _ h_r3 fun _ z => by cases z)
    have q_r4 := s2 _ _ (x1 _ _ h_r4 fun _ z => by cases z)
    refine ⟨W1, _, _, rfl, rfl, eW2, by show 4 < sizeLine; decide, ?_⟩
    have w3 := w2.upL (o := .lst ([V.ref ra, .ref rb, .ref r3, .ref r4] ++ [.ref r5])) nW0 eW2
    have no : ∀ {r : Addr} {x y : Str}, G2 r = some (.lst [.str x, .str y]) → upd G2 W1 (.lst ([V.ref ra, .ref rb, .ref r3, .ref r4] ++ [.ref r5])) r = some (.lst [.str x, .str y]) := fun {r x y} e => by
      rw [upd_ne (fun z => by rw [z, eW2] at e; cases e)]
      exact e
    have eW3 : upd G2 W1 (.lst ([V.ref ra, .ref rb, .ref r3, .ref r4] ++ [.ref r5])) W1 = some (.lst [V.ref ra, .ref rb, .ref r3, .ref r4, .ref r5]) := upd_same
    replace h_ra := no q_ra
    replace h_rb := no q_rb
    replace h_r3 := no q_r3
    replace h_r4 := no q_r4
    have h_r5 := no e2
    generalize upd G2 W1 (.lst ([V.ref ra, .ref rb, .ref r3, .ref r4] ++ [.ref r5])) = G5b at *
    clear no x1 t1 w1 s2 n2 e2 w2 eW2 q_ra q_rb q_r3 q_r4 eW w5
    have w5 := w3
    have eW := eW3
    clear w3 eW3
    refine ⟨_, rfl, _, rfl, v, pd.shown, rfl, rp_ w5, fun G6 s6 => ⟨(by show 2 ≤ sizeLine; decide), fun i1 n1 => ?_⟩⟩
    have w6 := w5.stS s6
    have s8 := same_new (o := .lst [V.str "cut", .str pd.shown]) n1
    have e8 : upd G6 i1 (.lst [V.str "cut", .str pd.shown]) i1 = some (.lst [V.str "cut", .str pd.shown]) := upd_same
    generalize upd G6 i1 (.lst [V.str "cut", .str pd.shown]) = G8 at *
    refine ⟨(by show 1 ≤ sizeLine; decide), fun i2 n2 => ⟨i2, _, _, rfl, rfl, upd_same, by decide, by decide, by show 1 * 5 ≤ sizeLine; decide, fun i3 n3 => ?_⟩⟩
    have s9 := (same_new (o := .lst [V.ref i1]) n2).trans (same_new (o := .lst (List.replicate (5 : Int).toNat [V.ref i1]).flatten) n3)
    have e9 : upd (upd G8 i2 (.lst [V.ref i1])) i3 (.lst (List.replicate (5 : Int).toNat [V.ref i1]).flatten) i3 = some (.lst [V.ref i1, .ref i1, .ref i1, .ref i1, .ref i1]) := upd_same
    have s69 := (s6.trans s8).trans s9
    have w9 := w5.stS s69
    have eW9 := s69 _ _ eW
    have e89 := s9 _ _ e8
    have q_ra := s69 _ _ h_ra
    have q_rb := s69 _ _ h_rb
    have q_r3 := s69 _ _ h_r3
    have q_r4 := s69 _ _ h_r4
    have q_r5 := s69 _ _ h_r5
    generalize upd (upd G8 i2 (.lst [V.ref i1])) i3 (.lst (List.replicate (5 : Int).toNat [V.ref i1]).flatten) = G9 at *
    have sk : SeqAt.shaped (.list [kdD "cut" pd.shown, kdD "cut" pd.shown, kdD "cut" pd.shown, kdD "cut" pd.shown, kdD "cut" pd.shown]) = true := by
      have y := okp
      simp [kdD, SeqAt.shaped, PyData.canLay0, PyData.canLayAll0, PyData.depth, PyData.depthAll, y, show PyData.strOk "cut" = true by decide +kernel]
    have se : PyData.eqv (.list [kdD "cut" pd.shown, kdD "cut" pd.shown, kdD "cut" pd.shown, kdD "cut" pd.shown, kdD "cut" pd.shown]) (.list [kdD "cut" pd.shown, kdD "cut" pd.shown, kdD "cut" pd.shown, kdD "cut" pd.shown, kdD "cut" pd.shown]) = true := by simp [kdD, PyData.eqv, PyData.eqvAll]
    refine ⟨_, _, .lst (SqL.of eW9) (.cons (kdDp q_ra) (.cons (kdDp q_rb) (.cons (kdDp q_r3) (.cons (kdDp q_r4) (.cons (kdDp q_r5) .nil))))), .lst (SqL.of e9) (.cons (kdDp e89) (.cons (kdDp e89) (.cons (kdDp e89) (.cons (kdDp e89) (.cons (kdDp e89) .nil))))), sk, sk, _, rfl, ?_⟩
    rw [se]
    refine iteF ?_
    clear eW w5 h_ra h_rb h_r3 h_r4 h_r5 s6 w6 n1 s8 e8 n2 n3 s9 e9 s69 eW9 e89 q_ra q_rb q_r3 q_r4 q_r5 sk se nW0
    refine ⟨_, rfl, .inr ⟨v, rfl, (od_ w9).notC X.N, ⟨_, _, rfl, rfl, _, rfl, iteF ?_⟩⟩⟩
    obtain ⟨_, dx, _, _, es, _⟩ := id (g_ w9)
    refine ⟨_, rfl, g, dx, _, rfl, es, rfl, _, rfl, g, v, rfl, (od_ w9).notS, fun G10 k10 => ⟨_, _, rfl, rfl, _, rfl, iteF ?_⟩⟩
    have w10 := w9.stS k10
    clear w9 k10 es
    refine ⟨_, rfl, _, rfl, _, rfl, (by show 2 ≤ sizeLine; decide), fun h1 nh1 => ?_⟩
    have sh1 := same_new (o := .tup [V.ref gg, .ref gg]) nh1
    have fh1 : upd G10 h1 (.tup [V.ref gg, .ref gg]) h1 = some (.tup [V.ref gg, .ref gg]) := upd_same
    have w11 := w10.stS sh1
    generalize upd G10 h1 (.tup [V.ref gg, .ref gg]) = G11 at *
    refine ⟨_, rfl, _, rfl, (by show 2 ≤ sizeLine; decide), fun h2 nh2 => ?_⟩
    have sh2 := same_new (o := .tup [V.ref gg, v]) nh2
    have fh2 : upd G11 h2 (.tup [V.ref gg, v]) h2 = some (.tup [V.ref gg, v]) := upd_same
    have w12 := w11.stS sh2
    replace fh1 := sh2 _ _ fh1
    generalize upd G11 h2 (.tup [V.ref gg, v]) = G12 at *
    refine ⟨_, rfl, (by show 2 ≤ sizeLine; decide), fun h3 nh3 => ?_⟩
    have sh3 := same_new (o := .tup [V.int 2, .bl true]) nh3
    have fh3 : upd G12 h3 (.tup [V.int 2, .bl true]) h3 = some (.tup [V.int 2, .bl true]) := upd_same
    have w13 := w12.stS sh3
    replace fh1 := sh3 _ _ fh1
    replace fh2 := sh3 _ _ fh2
    generalize upd G12 h3 (.tup [V.int 2, .bl true]) = G13 at *
    refine ⟨(by show 2 ≤ sizeLine; decide), fun h4 nh4 => ?_⟩
    have sh4 := same_new (o := .lst [V.ref gg, .ref h3]) nh4
    have fh4 : upd G13 h4 (.lst [V.ref gg, .ref h3]) h4 = some (.lst [V.ref gg, .ref h3]) := upd_same
    have w14 := w13.stS sh4
    replace fh1 := sh4 _ _ fh1
    replace fh2 := sh4 _ _ fh2
    replace fh3 := sh4 _ _ fh3
    generalize upd G13 h4 (.lst [V.ref gg, .ref h3]) = G14 at *
    refine ⟨_, rfl, (by show 2 ≤ sizeLine; decide), fun h5 nh5 => ?_⟩
    have sh5 := same_new (o := .tup [V.int 2, .bl true]) nh5
    have fh5 : upd G14 h5 (.tup [V.int 2, .bl true]) h5 = some (.tup [V.int 2, .bl true]) := upd_same
    have w15 := w14.stS sh5
    replace fh1 := sh5 _ _ fh1
    replace fh2 := sh5 _ _ fh2
    replace fh3 := sh5 _ _ fh3
    replace fh4 := sh5 _ _ fh4
    generalize upd G14 h5 (.tup [V.int 2, .bl true]) = G15 at *
    refine ⟨_, rfl, (by show 3 ≤ sizeLine; decide), fun h6 nh6 => ?_⟩
    have sh6 := same_new (o := .tup [V.ref gg, .ref h5, .ref gg]) nh6
    have fh6 : upd G15 h6 (.tup [V.ref gg, .ref h5, .ref gg]) h6 = some (.tup [V.ref gg, .ref h5, .ref gg]) := upd_same
    have w16 := w15.stS sh6
    replace fh1 := sh6 _ _ fh1
    replace fh2 := sh6 _ _ fh2
    replace fh3 := sh6 _ _ fh3
    replace fh4 := sh6 _ _ fh4
    replace fh5 := sh6 _ _ fh5
    generalize upd G15 h6 (.tup [V.ref gg, .ref h5, .ref gg]) = G16 at *
    refine ⟨(by show 5 ≤ sizeLine; decide), fun lT nlT => ?_⟩
    have sT := same_new (o := .lst [v, V.ref h1, .ref h2, .ref h4, .ref h6]) nlT
    have fT_ : upd G16 lT (.lst [v, V.ref h1, .ref h2, .ref h4, .ref h6]) lT = some (.lst [v, V.ref h1, .ref h2, .ref h4, .ref h6]) := upd_same
    have w17 := w16.stS sT
    replace fh1 := sT _ _ fh1
    replace fh2 := sT _ _ fh2
    replace fh3 := sT _ _ fh3
    replace fh4 := sT _ _ fh4
    replace fh5 := sT _ _ fh5
    replace fh6 := sT _ _ fh6
    generalize upd G16 lT (.lst [v, V.ref h1, .ref h2, .ref h4, .ref h6]) = G17 at *
    clear w10 w11 w12 w13 w14 w15 w16 sh1 sh2 sh3 sh4 sh5 sh6 sT nh1 nh2 nh3 nh4 nh5 nh6 nlT
    have b17 : BX (tbs tbp tbr) G17 G17 := ⟨LamX.ExtN.refl _, w17.tb⟩
    have dn : ∀ {G}, BX (tbs tbp tbr) G17 G → BX (tbs tbp tbr) G5 G := fun x => ⟨w17.ex.trans x.ex, x.tb⟩
    have things : ∀ y ∈ [v, V.ref h1, .ref h2, .ref h4, .ref h6], ∃ py, Shows py ∧ ∀ G, BX (tbs tbp tbr) G17 G → NotS K G y ∧ Dq K G y py := by
      intro y hy
      have ggd : ∀ {G}, BX (tbs tbp tbr) G17 G → Dq K G (.ref gg) gD := fun x => gD_dq (gg_ (dn x))
      simp only [List.mem_cons, List.not_mem_nil, or_false] at hy
      rcases hy with rfl | rfl | rfl | rfl | rfl
      · exact ⟨pd, od5.shows, fun G x => ⟨(od_ (dn x)).notS, (od_ (dn x)).dq⟩⟩
      · refine ⟨_, gg_shows, fun G x => ?_⟩
        have e := x.ex _ _ fh1 (fun _ z => by cases z)
        refine ⟨.inr (.inr (.inr (.inr ⟨1, false, 1, false, ⟨h1, _, _, rfl, e, gD_cut (gg_ (dn x)), gD_cut (gg_ (dn x))⟩, ⟨by decide +kernel, by decide +kernel⟩, ⟨by decide +kernel, by decide +kernel⟩, by decide +kernel⟩))), .tup (SqT.of e) (.cons (ggd x) (.cons (ggd x) .nil))⟩
      · refine ⟨_, go_shows od5, fun G x => ?_⟩
        have e := x.ex _ _ fh2 (fun _ z => by cases z)
        exact ⟨.inr (.inr (.inr (.inl ⟨h2, _, _, 1, false, rfl, e, gD_cut (gg_ (dn x)), (od_ (dn x)).notC X.N⟩))), .tup (SqT.of e) (.cons (ggd x) (.cons (od_ (dn x)).dq .nil))⟩
      · refine ⟨_, lg_shows, fun G x => ?_⟩
        have e := x.ex _ _ fh4 (fun _ z => by cases z)
        have e3 := x.ex _ _ fh3 (fun _ z => by cases z)
        exact ⟨.inl ⟨_, .base (.lst e), kit_ty (by decide +kernel)⟩, .lst (SqL.of e) (.cons (ggd x) (.cons (.tup (SqT.of e3) (.cons (.int 2) (.cons (.bl true) .nil))) .nil))⟩
      · refine ⟨_, g3_shows, fun G x => ?_⟩
        have e := x.ex _ _ fh6 (fun _ z => by cases z)
        have e5 := x.ex _ _ fh5 (fun _ z => by cases z)
        exact ⟨.inr (.inl ⟨h6, _, rfl, e, by show 3 ≠ 2; decide⟩), .tup (SqT.of e) (.cons (ggd x) (.cons (.tup (SqT.of e5) (.cons (.int 2) (.cons (.bl true) .nil))) (.cons (ggd x) .nil)))⟩
    clear fh1 fh2 fh3 fh4 fh5 fh6
    refine ⟨lT, rfl, ⟨_, SqL.of fT_⟩, ?_⟩
    refine for_list (K := K) (a := lT) (xs := [v, V.ref h1, .ref h2, .ref h4, .ref h6]) (fun i z G => BX (tbs tbp tbr) G17 G ∧ ∃ v8 v9 v10 v11, z = [some (.ref p), some (.ref a), some (.ref cc), some v, some (.ref gg), some (.ref re), some (.ref g), some (.ref W1), v8, v9, v10, v11]) ?_ ?_ ?_ ?_
    · exact ⟨b17, none, none, none, none, rfl⟩
    · rintro i z G _ ⟨w, _⟩
      exact SqL.of (w.ex _ _ fT_ (fun _ z => by cases z))
    · rintro i y z G hy ⟨w, v8, v9, v10, v11, rfl⟩
      obtain ⟨py, sy, ty⟩ := things y (List.mem_of_getElem? hy)
      refine ⟨w.tb, fun G1 x1 t1 => ?_⟩
      have w1 := w.stE x1 t1
      refine tt_val .str (sy.rep (ty _ w1).2) (fun E H1 R s o => ?_) (fun ra G2 s2 n2 e2 => ?_)
      · have z := w1.stS s
        exact ⟨_, rfl, y, rfl, (ty _ z).1, o⟩
      have w2 := w1.stS s2
      refine ⟨_, rfl, y, py.shown, rfl, sy.rep (ty _ w2).2, fun G3 s3 => ⟨(by show 2 ≤ sizeLine; decide), fun i1 n1 => ?_⟩⟩
      have w3 := w2.stS s3
      have s4 := same_new (o := .lst [V.str "stretch", .str py.shown]) n1
      have w4 := w3.stS s4
      have sk : SeqAt.shaped (kdD "stretch" py.shown) = true := shp_kd (by decide +kernel) sy.ok
      refine ⟨_, _, kdDp (s4 _ _ (s3 _ _ e2)), kdDp upd_same, sk, sk, _, rfl, ?_⟩
      rw [eqv_kd]
      refine iteF ?_
      generalize upd G3 i1 (.lst [V.str "stretch", .str py.shown]) = G4 at *
      have v1 := w4
      clear w4 s4 w3 s3 w2 n2 e2 s2 w1 x1 t1 n1 sk
      refine ⟨_, rfl, y, rfl, (ty _ v1).1, fun G5' k5 => ⟨_, _, rfl, rfl, _, rfl, iteF ?_⟩⟩
      have u1 := v1.stS k5
      refine ⟨u1.tb, fun G1 x1 t1 => ?_⟩
      have w1 := u1.stE x1 t1
      refine tt_val .str (sy.rep (ty _ w1).2) (fun E H1 R s o => ?_) (fun ra G2 s2 n2 e2 => ?_)
      · have z := w1.stS s
        exact ⟨_, rfl, .int 0, y, 0, rfl, .inl ⟨0, rfl, rfl⟩, (ty _ z).1, o⟩
      have w2 := w1.stS s2
      refine ⟨_, rfl, y, py.shown, rfl, sy.rep (ty _ w2).2, fun G3 s3 => ⟨(by show 2 ≤ sizeLine; decide), fun i1 n1 => ?_⟩⟩
      have w3 := w2.stS s3
      have s4 := same_new (o := .lst [V.str "stretch", .str py.shown]) n1
      have w4 := w3.stS s4
      have sk : SeqAt.shaped (kdD "stretch" py.shown) = true := shp_kd (by decide +kernel) sy.ok
      refine ⟨_, _, kdDp (s4 _ _ (s3 _ _ e2)), kdDp upd_same, sk, sk, _, rfl, ?_⟩
      rw [eqv_kd]
      refine iteF ?_
      generalize upd G3 i1 (.lst [V.str "stretch", .str py.shown]) = G4 at *
      have v2 := w4
      clear w4 s4 w3 s3 w2 n2 e2 s2 w1 x1 t1 n1 sk
      obtain ⟨_, dx, _, _, es, _⟩ := id (g_ (dn v2))
      refine ⟨_, rfl, g, dx, _, rfl, es, rfl, _, rfl, g, y, rfl, (ty _ v2).1, fun G6' k6 => ⟨_, _, rfl, rfl, _, rfl, iteF ?_⟩⟩
      exact ⟨v2.stS k6, _, _, _, _, rfl⟩
    · rintro z G20 ⟨w, v8, v9, v10, v11, rfl⟩
      replace w := dn w
      clear things dn b17 w17 fT_
      have R20 := Rng.ext R5 w.ex
      refine ⟨_, rfl, (by show 0 ≤ sizeLine; decide), fun c0 nc0 => ⟨(by show 2 ≤ sizeLine; decide), fun c1 nc1 c2 nc2 => ⟨(by show 6 ≤ sizeLine; decide), fun cL ncL => ?_⟩⟩⟩
      have sc0 := same_new (o := .lst []) nc0
      have fc0 : upd G20 c0 (.lst []) c0 = some (.lst []) := upd_same
      generalize upd G20 c0 (.lst []) = Hc0 at *
      have sc1 := same_new (o := .tup [V.int 1, .int 2]) nc1
      have fc1 : upd Hc0 c1 (.tup [V.int 1, .int 2]) c1 = some (.tup [V.int 1, .int 2]) := upd_same
      generalize upd Hc0 c1 (.tup [V.int 1, .int 2]) = Hc1 at *
      have sc2 := same_new (o := .dK []) nc2
      have fc2 : upd Hc1 c2 (.dK []) c2 = some (.dK []) := upd_same
      generalize upd Hc1 c2 (.dK []) = Hc2 at *
      have scL := same_new (o := .lst [V.non, .bl true, .str "1", .ref c0, .ref c1, .ref c2]) ncL
      have ecL : upd Hc2 cL (.lst [V.non, .bl true, .str "1", .ref c0, .ref c1, .ref c2]) cL = some (.lst [V.non, .bl true, .str "1", .ref c0, .ref c1, .ref c2]) := upd_same
      generalize upd Hc2 cL (.lst [V.non, .bl true, .str "1", .ref c0, .ref c1, .ref c2]) = HcL at *
      have gc0 := scL _ _ (sc2 _ _ (sc1 _ _ fc0))
      have gc1 := scL _ _ (sc2 _ _ fc1)
      have gc2 := scL _ _ fc2
      have scA := ((sc0.trans sc1).trans sc2).trans scL
      have wL := w.stS scA
      have RL := R20.same scA
      have pc0 : c0 ≠ p := Rng.ne_new R20 nc0
      have pc1 : c1 ≠ p := Rng.ne_new (R20.same sc0) nc1
      have pc2 : c2 ≠ p := Rng.ne_new (R20.same (sc0.trans sc1)) nc2
      have pcL : cL ≠ p := Rng.ne_new (R20.same ((sc0.trans sc1).trans sc2)) ncL
      refine ⟨p, cL, _, rfl, RL, ecL, pcL, by show 0 < 6; decide, by show 6 < 1000; decide, fun y GX my kp R6 => ?_⟩
      have kd : Same (off HcL p) GX := off_kp kp
      have odd2 : ∃ pb, Odd p HcL y pb ∧ y ≠ .int 0 := by
        simp only [List.mem_cons, List.not_mem_nil, or_false] at my
        rcases my with rfl | rfl | rfl | rfl | rfl | rfl
        · exact ⟨_, .inl .non, fun z => by cases z⟩
        · exact ⟨_, .inl .bT, fun z => by cases z⟩
        · exact ⟨_, .inl .s, fun z => by cases z⟩
        · exact ⟨_, .inr ⟨c0, _, rfl, pc0, gc0, .l0⟩, fun z => by cases z⟩
        · exact ⟨_, .inr ⟨c1, _, rfl, pc1, gc1, .t12⟩, fun z => by cases z⟩
        · exact ⟨_, .inr ⟨c2, _, rfl, pc2, gc2, .d⟩, fun z => by cases z⟩
      obtain ⟨pb, odd2, yz⟩ := odd2
      replace odd2 := odd2.offp.ext (same_extN kd)
      have re6 := ((re_ wL).offR RL).same kd
      have g6 := ((g_ wL).offR RL).same kd
      have a6 := ((ha5.ext wL.ex).offR RL).same kd
      have c6 := ((hc5.ext wL.ex).offR RL).same kd
      have tb6 := tO wL.tb RL kd
      have x06 : LamX.ExtN (off H p) GX := fun b o e n => kd b o (by
        rw [off_ne (off_some e).1]
        exact wL.ex b o (x05 b o e n) n)
      clear re_ g_ od_ rp_ gg_ egg0 hre0 hg0 od5 ha5 hc5 b5 w wL x05 tb5 R5 R20 RL sc0 sc1 sc2 scL fc0 fc1 fc2 gc0 gc1 gc2 scA nc0 nc1 nc2 ncL ecL pc0 pc1 pc2 pcL my kp kd okp
      have b6 : BX (tbs tbp tbr) GX GX := ⟨LamX.ExtN.refl _, tb6⟩
      have re_ : ∀ {G}, BX (tbs tbp tbr) GX G → RatAt K G re q := fun x => re6.ext x.1
      have g_ : ∀ {G}, BX (tbs tbp tbr) GX G → RngAt K G g ((0 : Int) : Rat) ((1 : Int) : Rat) := fun x => g6.ext x.1
      have ob_ : ∀ {G}, BX (tbs tbp tbr) GX G → Odd p G y pb := fun x => odd2.ext x.1
      have rb_ : ∀ {G}, BX (tbs tbp tbr) GX G → RepAt K G y pb.shown := fun x => (ob_ x).shows.rep (ob_ x).dq
      have nb_ : ∀ {G}, BX (tbs tbp tbr) GX G → NotN K G y := fun x => (ob_ x).notN X.N yz
      have okb : PyData.strOk pb.shown = true := odd2.shows.ok
      refine ⟨b6.tb, fun G1 x1 t1 => ?_⟩
      have w1 := b6.stE x1 t1
      refine tt_val .num (rb_ w1) (fun E H1 R s o => ?_) (fun ra G2 s2 n2 e2 => ?_)
      · have z := w1.stS s
        exact ⟨_, rfl, _, rfl, y, v, rfl, nb_ z, o⟩
      have w2 := w1.stS s2
      refine ⟨w2.tb, fun G3 x3 t3 => ?_⟩
      have w3 := w2.stE x3 t3
      have ea := x3 _ _ e2 fun _ z => by cases z
      refine tt_val .num (rb_ w3) (fun E H1 R s o => ?_) (fun rb G4 s4 n4 eb => ⟨(by show 2 ≤ sizeLine; decide), fun W2 nW => ?_⟩)
      · have z := w3.stS s
        exact ⟨_, rfl, _, rfl, y, v, rfl, nb_ z, o⟩
      have w4 := w3.stS s4
      have nW2 := w4.new nW
      replace ea := s4 _ _ ea
      have s5 := same_new (o := .lst [V.ref ra, .ref rb]) nW
      have eW : upd G4 W2 (.lst [V.ref ra, .ref rb]) W2 = some (.lst [V.ref ra, .ref rb]) := upd_same
      have w5 := w4.stS s5
      replace ea := s5 _ _ ea
      replace eb := s5 _ _ eb
      generalize upd G4 W2 (.lst [V.ref ra, .ref rb]) = G5a at *
      clear x1 t1 w1 s2 n2 e2 w2 x3 t3 w3 s4 n4 w4 nW s5
      have h_ra := ea
      have h_rb := eb
      clear ea eb
      refine ⟨_, rfl, .inl ⟨rfl, _, SqL.of eW⟩, w5.tb, fun G1 x1 t1 => ?_⟩
      have w1 := w5.stE x1 t1
      refine tt_val .num (rb_ w1) (fun E H1 R s o => ?_) (fun r3 G2 s2 n2 e2 => ?_)
      · have z := w1.stS s
        refine ⟨_, rfl, fun x dx hx hd ne => ?_⟩
        have up : Same H1 (upd (upd H1 dx (.own x)) x (.ins (aG K) dx [])) := fun b o e => by rw [upd_ne (ne_of_none e hx), upd_ne (ne_of_none e hd)]; exact e
        exact ⟨x, y, .non, rfl, (nb_ z).same up, o.same up⟩
      have w2 := w1.stS s2
      have eW2 := s2 _ _ (x1 _ _ eW fun _ z => by cases z)
      have q_ra := s2 _ _ (x1 _ _ h_ra fun _ z => by cases z)
      have q_rb := s2 _ _ (x1 _ _ h_rb fun _ z => by cases z)
      refine ⟨W2, _, _, rfl, rfl, eW2, by show 2 < sizeLine; decide, ?_⟩
      have w3 := w2.upL (o := .lst ([V.ref ra, .ref rb] ++ [.ref r3])) nW2 eW2
      have no : ∀ {r : Addr} {x y : Str}, G2 r = some (.lst [.str x, .str y]) → upd G2 W2 (.lst ([V.ref ra, .ref rb] ++ [.ref r3])) r = some (.lst [.str x, .str y]) := fun {r x y} e => by
        rw [upd_ne (fun z => by rw [z, eW2] at e; cases e)]
        exact e
      have eW3 : upd G2 W2 (.lst ([V.ref ra, .ref rb] ++ [.ref r3])) W2 = some (.lst [V.ref ra, .ref rb, .ref r3]) := upd_same
      replace h_ra := no q_ra
      replace h_rb := no q_rb
      have h_r3 := no e2
      generalize upd G2 W2 (.lst ([V.ref ra, .ref rb] ++ [.ref r3])) = G5b at *
      clear no x1 t1 w1 s2 n2 e2 w2 eW2 q_ra q_rb eW w5
      have w5 := w3
      have eW := eW3
      clear w3 eW3
      refine ⟨_, rfl, .inl ⟨rfl, _, SqL.of eW⟩, w5.tb, fun G1 x1 t1 => ?_⟩
      have w1 := w5.stE x1 t1
      refine tt_val .num (rb_ w1) (fun E H1 R s o => ?_) (fun r4 G2 s2 n2 e2 => ?_)
      · have z := w1.stS s
        refine ⟨_, rfl, fun x dx hx hd ne => ?_⟩
        have up : Same H1 (upd (upd H1 dx (.own x)) x (.ins (aG K) dx [])) := fun b o e => by rw [upd_ne (ne_of_none e hx), upd_ne (ne_of_none e hd)]; exact e
        exact ⟨x, dx, .int 1, y, 1, rfl, upd_same, .inl ⟨1, rfl, rfl⟩, fun H' kp => (nb_ z).same (fun b o e => kp b o (ne_of_none e hx) (up b o e)), outS.new (D := aIN K) o hx hd⟩
      have w2 := w1.stS s2
      have eW2 := s2 _ _ (x1 _ _ eW fun _ z => by cases z)
      have q_ra := s2 _ _ (x1 _ _ h_ra fun _ z => by cases z)
      have q_rb := s2 _ _ (x1 _ _ h_rb fun _ z => by cases z)
      have q_r3 := s2 _ _ (x1 _ _ h_r3 fun _ z => by cases z)
      refine ⟨W2, _, _, rfl, rfl, eW2, by show 3 < sizeLine; decide, ?_⟩
      have w3 := w2.upL (o := .lst ([V.ref ra, .ref rb, .ref r3] ++ [.ref r4])) nW2 eW2
      have no : ∀ {r : Addr} {x y : Str}, G2 r = some (.lst [.str x, .str y]) → upd G2 W2 (.lst ([V.ref ra, .ref rb, .ref r3] ++ [.ref r4])) r = some (.lst [.str x, .str y]) := fun {r x y} e => by
        rw [upd_ne (fun z => by rw [z, eW2] at e; cases e)]
        exact e
      have eW3 : upd G2 W2 (.lst ([V.ref ra, .ref rb, .ref r3] ++ [.ref r4])) W2 = some (.lst [V.ref ra, .ref rb, .ref r3, .ref r4]) := upd_same
      replace h_ra := no q_ra
      replace h_rb := no q_rb
      replace h_r3 := no q_r3
      have h_r4 := no e2
      generalize upd G2 W2 (.lst ([V.ref ra, .ref rb, .ref r3] ++ [.ref r4])) = G5b at *
      clear no x1 t1 w1 s2 n2 e2 w2 eW2 q_ra q_rb q_r3 eW w5
      have w5 := w3
      have eW := eW3
      clear w3 eW3
      refine ⟨_, rfl, _, rfl, y, pb.shown, rfl, rb_ w5, fun G6 s6 => ⟨(by show 2 ≤ sizeLine; decide), fun i1 n1 => ?_⟩⟩
      have w6 := w5.stS s6
      have s8 := same_new (o := .lst [V.str "number", .str pb.shown]) n1
      have e8 : upd G6 i1 (.lst [V.str "number", .str pb.shown]) i1 = some (.lst [V.str "number", .str pb.shown]) := upd_same
      generalize upd G6 i1 (.lst [V.str "number", .str pb.shown]) = G8 at *
      refine ⟨(by show 1 ≤ sizeLine; decide), fun i2 n2 => ⟨i2, _, _, rfl, rfl, upd_same, by decide, by decide, by show 1 * 4 ≤ sizeLine; decide, fun i3 n3 => ?_⟩⟩
      have s9 := (same_new (o := .lst [V.ref i1]) n2).trans (same_new (o := .lst (List.replicate (4 : Int).toNat [V.ref i1]).flatten) n3)
      have e9 : upd (upd G8 i2 (.lst [V.ref i1])) i3 (.lst (List.replicate (4 : Int).toNat [V.ref i1]).flatten) i3 = some (.lst [V.ref i1, .ref i1, .ref i1, .ref i1]) := upd_same
      have s69 := (s6.trans s8).trans s9
      have w9 := w5.stS s69
      have eW9 := s69 _ _ eW
      have e89 := s9 _ _ e8
      have q_ra := s69 _ _ h_ra
      have q_rb := s69 _ _ h_rb
      have q_r3 := s69 _ _ h_r3
      have q_r4 := s69 _ _ h_r4
      generalize upd (upd G8 i2 (.lst [V.ref i1])) i3 (.lst (List.replicate (4 : Int).toNat [V.ref i1]).flatten) = G9 at *
      have sk : SeqAt.shaped (.list [kdD "number" pb.shown, kdD "number" pb.shown, kdD "number" pb.shown, kdD "number" pb.shown]) = true := by
        have y := okb
        simp [kdD, SeqAt.shaped, PyData.canLay0, PyData.canLayAll0, PyData.depth, PyData.depthAll, y, show PyData.strOk "number" = true by decide +kernel]
      have se : PyData.eqv (.list [kdD "number" pb.shown, kdD "number" pb.shown, kdD "number" pb.shown, kdD "number" pb.shown]) (.list [kdD "number" pb.shown, kdD "number" pb.shown, kdD "number" pb.shown, kdD "number" pb.shown]) = true := by simp [kdD, PyData.eqv, PyData.eqvAll]
      refine ⟨_, _, .lst (SqL.of eW9) (.cons (kdDp q_ra) (.cons (kdDp q_rb) (.cons (kdDp q_r3) (.cons (kdDp q_r4) .nil)))), .lst (SqL.of e9) (.cons (kdDp e89) (.cons (kdDp e89) (.cons (kdDp e89) (.cons (kdDp e89) .nil)))), sk, sk, _, rfl, ?_⟩
      rw [se]
      refine iteF ?_
      clear eW w5 h_ra h_rb h_r3 h_r4 s6 w6 n1 s8 e8 n2 n3 s9 e9 s69 eW9 e89 q_ra q_rb q_r3 q_r4 sk se nW2
      obtain ⟨_, dx, _, _, es, _⟩ := id (g_ w9)
      refine ⟨_, rfl, _, rfl, g, dx, _, rfl, es, g, y, rfl, nb_ w9, ⟨_, rfl, _, rfl, iteF ?_⟩⟩
      clear es
      refine ⟨(by show 2 ≤ sizeLine; decide), fun q1 nq1 => ?_⟩
      have sq1_ := same_new (o := .tup [V.int 3, .int 2]) nq1
      have fq1 : upd G9 q1 (.tup [V.int 3, .int 2]) q1 = some (.tup [V.int 3, .int 2]) := upd_same
      have y10 := w9.stS sq1_
      generalize upd G9 q1 (.tup [V.int 3, .int 2]) = G10 at *
      intro x5 d5 nx5 nd5 ne5
      refine made_ratR (t := 5) (b := 2) nx5 nd5 (by decide) (by show 2 < 2 ^ 9000; exact Nat.lt_of_lt_of_le (by decide : 2 < 2 ^ 2) (Nat.pow_le_pow_right (by decide) (by decide))) fun G11 k11 h5 => ⟨rfl, (by show 2 ≤ sizeLine; decide), fun q2 nq2 => ?_⟩
      have y11 := y10.stS k11
      replace fq1 := k11 _ _ fq1
      have sq2_ := same_new (o := .tup [V.ref x5, .int 2]) nq2
      have fq2 : upd G11 q2 (.tup [V.ref x5, .int 2]) q2 = some (.tup [V.ref x5, .int 2]) := upd_same
      have y12 := y11.stS sq2_
      replace fq1 := sq2_ _ _ fq1
      replace h5 := h5.same sq2_
      generalize upd G11 q2 (.tup [V.ref x5, .int 2]) = G12 at *
      intro x6 d6 nx6 nd6 ne6
      refine made_ratR (t := 1) (b := 2) nx6 nd6 (by decide) (by show 2 < 2 ^ 9000; exact Nat.lt_of_lt_of_le (by decide : 2 < 2 ^ 2) (Nat.pow_le_pow_right (by decide) (by decide))) fun G13 k13 h6 => ⟨rfl, (by show 2 ≤ sizeLine; decide), fun q3 nq3 => ?_⟩
      have y13 := y12.stS k13
      replace fq1 := k13 _ _ fq1
      replace fq2 := k13 _ _ fq2
      replace h5 := h5.same k13
      have sq3_ := same_new (o := .tup [V.int 3, .ref x6]) nq3
      have fq3 : upd G13 q3 (.tup [V.int 3, .ref x6]) q3 = some (.tup [V.int 3, .ref x6]) := upd_same
      have y14 := y13.stS sq3_
      replace fq1 := sq3_ _ _ fq1
      replace fq2 := sq3_ _ _ fq2
      replace h5 := h5.same sq3_
      replace h6 := h6.same sq3_
      generalize upd G13 q3 (.tup [V.int 3, .ref x6]) = G14 at *
      refine ⟨_, _, rfl, rfl, (by first | decide | exact ⟨by decide, by decide, by decide⟩), _, rfl, (by show 2 ≤ sizeLine; decide), fun q4 nq4 => ?_⟩
      have sq4_ := same_new (o := .tup [V.int ((10 : Int) ^ (20 : Int).toNat), .int (-1)]) nq4
      have fq4 : upd G14 q4 (.tup [V.int ((10 : Int) ^ (20 : Int).toNat), .int (-1)]) q4 = some (.tup [V.int ((10 : Int) ^ (20 : Int).toNat), .int (-1)]) := upd_same
      have y15 := y14.stS sq4_
      replace fq1 := sq4_ _ _ fq1
      replace fq2 := sq4_ _ _ fq2
      replace fq3 := sq4_ _ _ fq3
      replace h5 := h5.same sq4_
      replace h6 := h6.same sq4_
      generalize upd G14 q4 (.tup [V.int ((10 : Int) ^ (20 : Int).toNat), .int (-1)]) = G15 at *
      refine ⟨(by show 4 ≤ sizeLine; decide), fun lP nP => ?_⟩
      have sP := same_new (o := .lst [V.ref q1, .ref q2, .ref q3, .ref q4]) nP
      have fP : upd G15 lP (.lst [V.ref q1, .ref q2, .ref q3, .ref q4]) lP = some (.lst [V.ref q1, .ref q2, .ref q3, .ref q4]) := upd_same
      have y16 := y15.stS sP
      replace fq1 := sP _ _ fq1
      replace fq2 := sP _ _ fq2
      replace fq3 := sP _ _ fq3
      replace fq4 := sP _ _ fq4
      replace h5 := h5.same sP
      replace h6 := h6.same sP
      generalize upd G15 lP (.lst [V.ref q1, .ref q2, .ref q3, .ref q4]) = G16 at *
      clear y10 y11 y12 y13 y14 y15 k11 k13 sq1_ sq2_ sq3_ sq4_ sP nq1 nq2 nq3 nq4 nP nx5 nd5 ne5 nx6 nd6 ne6 w9
      have b16 : BX (tbs tbp tbr) G16 G16 := ⟨LamX.ExtN.refl _, y16.tb⟩
      have dn : ∀ {G}, BX (tbs tbp tbr) G16 G → BX (tbs tbp tbr) GX G := fun x => ⟨y16.ex.trans x.ex, x.tb⟩
      have pairs : ∀ y ∈ [V.ref q1, .ref q2, .ref q3, .ref q4], ∃ (t : Addr) (u1 u2 : V) (qa ra : Rat) (z1 z2 : Str), y = .ref t ∧ rBelow ra qa = true ∧ Sz 100 qa ∧ Sz 100 ra ∧ ∀ G, BX (tbs tbp tbr) G16 G → G t = some (.tup [u1, u2]) ∧ NumAt K G u1 qa ∧ NumAt K G u2 ra ∧ NumR K G u1 z1 ∧ NumR K G u2 z2 := by
        intro y hy
        have ni : ∀ {G : Hp} (i : Int), i.natAbs.log2 < 1920 → NumR K G (.int i) (Str.ofString (toString i)) := fun i h => .inl ⟨i, rfl, h, rfl⟩
        simp only [List.mem_cons, List.not_mem_nil, or_false] at hy
        rcases hy with rfl | rfl | rfl | rfl
        · exact ⟨q1, _, _, ((3 : Int) : Rat), ((2 : Int) : Rat), _, _, rfl, by decide +kernel, ⟨by decide +kernel, by decide +kernel⟩, ⟨by decide +kernel, by decide +kernel⟩, fun G x => ⟨x.ex _ _ fq1 (fun _ z => by cases z), int_num, int_num, ni 3 (by decide +kernel), ni 2 (by decide +kernel)⟩⟩
        · refine ⟨q2, _, _, Rat.divInt 5 2, ((2 : Int) : Rat), _, _, rfl, by decide +kernel, ⟨by decide +kernel, by decide +kernel⟩, ⟨by decide +kernel, by decide +kernel⟩, fun G x => ⟨x.ex _ _ fq2 (fun _ z => by cases z), .inr ⟨x5, rfl, h5.ext x.ex⟩, int_num, .inr ⟨x5, _, rfl, h5.ext x.ex, ⟨by decide +kernel, by decide +kernel⟩, rfl⟩, ni 2 (by decide +kernel)⟩⟩
        · refine ⟨q3, _, _, ((3 : Int) : Rat), Rat.divInt 1 2, _, _, rfl, by decide +kernel, ⟨by decide +kernel, by decide +kernel⟩, ⟨by decide +kernel, by decide +kernel⟩, fun G x => ⟨x.ex _ _ fq3 (fun _ z => by cases z), int_num, .inr ⟨x6, rfl, h6.ext x.ex⟩, ni 3 (by decide +kernel), .inr ⟨x6, _, rfl, h6.ext x.ex, ⟨by decide +kernel, by decide +kernel⟩, rfl⟩⟩⟩
        · exact ⟨q4, _, _, (((10 : Int) ^ (20 : Int).toNat : Int) : Rat), ((-1 : Int) : Rat), _, _, rfl, by decide +kernel, ⟨by decide +kernel, by decide +kernel⟩, ⟨by decide +kernel, by decide +kernel⟩, fun G x => ⟨x.ex _ _ fq4 (fun _ z => by cases z), int_num, int_num, ni _ (by decide +kernel), ni (-1) (by decide +kernel)⟩⟩
      clear fq1 fq2 fq3 fq4 h5 h6
      refine ⟨_, rfl, lP, rfl, ⟨_, SqL.of fP⟩, ?_⟩
      refine for_list (K := K) (a := lP) (xs := [V.ref q1, .ref q2, .ref q3, .ref q4]) (fun i z G => BX (tbs tbp tbr) G16 G ∧ ∃ v8 v9 v11, z = [some (.ref p), some (.ref a), some (.ref cc), some v, some (.ref gg), some (.ref re), some (.ref g), some (.ref W2), v8, v9, some (.ref lP), v11]) ?_ ?_ ?_ ?_
      · exact ⟨b16, _, _, _, rfl⟩
      · rintro i z G _ ⟨w, _⟩
        exact SqL.of (w.ex _ _ fP (fun _ z => by cases z))
      · rintro i y' z G hy ⟨w, v8, v9, v11, rfl⟩
        obtain ⟨t, u1, u2, qa, ra, z1, z2, rfl, lt, sqa, sra, at_⟩ := pairs y' (List.mem_of_getElem? hy)
        have ok : PyData.strOk (tupleText [z1, z2]) = true := strOk_two (at_ _ w).2.2.2.1.ok (at_ _ w).2.2.2.2.ok
        refine ⟨w.tb, fun G1 x1 t1 => ?_⟩
        have w1 := w.stE x1 t1
        refine ⟨aIR K, "range", tupleText [z1, z2], .rng, fun E H1 R s o => ?_, fun rr G2 s2 n2 e2 => ?_⟩
        · have z := w1.stS s
          obtain ⟨e, m1, m2, l1, l2⟩ := at_ _ z
          refine ⟨_, rfl, t, _, _, _, rfl, rfl, SqT.of e, rfl, _, rfl, t, _, _, _, rfl, rfl, SqT.of e, rfl, fun x dx hx hd ne => ?_⟩
          have up : Same H1 (upd (upd H1 dx (.own x)) x (.ins (aG K) dx [])) := fun b o e => by rw [upd_ne (ne_of_none e hx), upd_ne (ne_of_none e hd)]; exact e
          refine ⟨x, dx, u1, u2, qa, ra, rfl, upd_same, m1.same up, m2.same up, sz_big sqa, sz_big sra, lt, fun t2 d H2 kp e2 nd ed => ?_⟩
          have k12 : Same H1 H2 := fun b o e => kp b o (ne_of_none e hx) (up b o e)
          exact o d (.ref t2) H2 k12 (none_of up nd) ed (.inr (.inr (.inl ⟨t2, u1, u2, z1, z2, rfl, e2, l1.same k12, l2.same k12, rfl⟩)))
        · have w2 := w1.stS s2
          obtain ⟨e, m1, m2, l1, l2⟩ := at_ _ w2
          refine ⟨_, rfl, .ref t, tupleText [z1, z2], rfl, .inr (.inr (.inl ⟨t, u1, u2, z1, z2, rfl, e, l1, l2, rfl⟩)), fun G3 s3 => ⟨(by show 2 ≤ sizeLine; decide), fun i1 n1 => ?_⟩⟩
          have w3 := w2.stS s3
          have s4 := same_new (o := .lst [V.str "range", .str (tupleText [z1, z2])]) n1
          have sk : SeqAt.shaped (kdD "range" (tupleText [z1, z2])) = true := shp_kd (by decide +kernel) ok
          refine ⟨_, _, kdDp (s4 _ _ (s3 _ _ e2)), kdDp upd_same, sk, sk, _, rfl, ?_⟩
          rw [eqv_kd]
          exact iteF ⟨w3.stS s4, _, _, _, rfl⟩
      · rintro z G30 ⟨w, v8, v9, v11, rfl⟩
        replace w := dn w
        have fin : ∀ {G}, BX (tbs tbp tbr) GX G → Q (.bl true) G := fun x => k _ (x06.trans x.ex) (Rng.ext R6 x.ex) x.tb
        clear pairs dn b16 y16 fP
        refine ⟨_, rfl, _, rfl, dP q, dP r, (a6.ext w.ex).dp, (c6.ext w.ex).dp, rfl, rfl, _, rfl, ?_⟩
        rw [dP_eqv]
        refine ite2 (fun z => fin w) (fun z => ?_)
        have lt : rBelow q r = true := by
          rw [rBelow_iff]
          have z1 := rBelow_not.mp le
          have z2 : ¬ q = r := fun e => z (decide_eq_true e)
          grind
        have ok : PyData.strOk (tupleText [reprQ r, reprQ q]) = true := strOk_two (reprQ_ok r) (reprQ_ok q)
        have sq9_ : Sz 900 q := sq.mono (by decide)
        have sr9_ : Sz 900 r := sr.mono (by decide)
        refine ⟨w.tb, fun G1 x1 t1 => ?_⟩
        have w1 := w.stE x1 t1
        refine ⟨aIR K, "range", tupleText [reprQ r, reprQ q], .rng, fun E H1 R s o => ?_, fun rr G2 s2 n2 e2 => ?_⟩
        · have z := w1.stS s
          have cT := c6.ext z.ex
          refine ⟨_, rfl, cc, _, _, _, rfl, rfl, SqT.of cT, rfl, _, rfl, cc, _, _, _, rfl, rfl, SqT.of cT, rfl, ?_⟩
          intro x3 d3 nx3 nd3 ne3
          refine made_ratQ nx3 nd3 sr (by decide) fun H3 k3 h3 => ⟨rfl, _, rfl, fun x dx hx hd ne => ?_⟩
          have up : Same H3 (upd (upd H3 dx (.own x)) x (.ins (aG K) dx [])) := fun b o e => by rw [upd_ne (ne_of_none e hx), upd_ne (ne_of_none e hd)]; exact e
          have hre3 := (re_ z).same k3
          refine ⟨x, dx, .ref x3, .ref re, r, q, rfl, upd_same, .inr ⟨x3, rfl, h3.same up⟩, .inr ⟨re, rfl, hre3.same up⟩, sz_big sr, sz_big sq, lt, fun t2 d H2 kp e2 nd ed => ?_⟩
          have k12 : Same H3 H2 := fun b o e => kp b o (ne_of_none e hx) (up b o e)
          exact o d (.ref t2) H2 (k3.trans k12) (none_of (k3.trans up) nd) ed (.inr (.inr (.inl ⟨t2, _, _, reprQ r, reprQ q, rfl, e2, .inr ⟨x3, r, rfl, h3.same k12, sr9_, rfl⟩, .inr ⟨re, q, rfl, hre3.same k12, sq9_, rfl⟩, rfl⟩)))
        · have w2 := w1.stS s2
          have cT := c6.ext w2.ex
          refine ⟨_, rfl, cc, _, _, _, rfl, rfl, SqT.of cT, rfl, _, rfl, cc, _, _, _, rfl, rfl, SqT.of cT, rfl, ?_⟩
          intro x3 d3 nx3 nd3 ne3
          refine made_ratQ nx3 nd3 sr (by decide) fun G3 k3 h3 => ⟨rfl, _, rfl, (by show 2 ≤ sizeLine; decide), fun t4 n4 => ?_⟩
          have u4 := same_new (o := .tup [V.ref x3, .ref re]) n4
          have hre4 := ((re_ w2).same k3).same u4
          refine ⟨.ref t4, tupleText [reprQ r, reprQ q], rfl, .inr (.inr (.inl ⟨t4, _, _, reprQ r, reprQ q, rfl, upd_same, .inr ⟨x3, r, rfl, h3.same u4, sr9_, rfl⟩, .inr ⟨re, q, rfl, hre4, sq9_, rfl⟩, rfl⟩)), fun G5' s5 => ⟨(by show 2 ≤ sizeLine; decide), fun i1 n1 => ?_⟩⟩
          have s25 := (k3.trans u4).trans s5
          have s6 := same_new (o := .lst [V.str "range", .str (tupleText [reprQ r, reprQ q])]) n1
          have sk : SeqAt.shaped (kdD "range" (tupleText [reprQ r, reprQ q])) = true := shp_kd (by decide +kernel) ok
          refine ⟨_, _, kdDp (s6 _ _ (s25 _ _ e2)), kdDp upd_same, sk, sk, ?_⟩
          rw [eqv_kd]
          exact fin (w2.stS (s25.trans s6))
end
end K18
set_option maxHeartbeats 4000000
namespace K18
open PySem PySem.Spec PyProof.Rows L2 GL
abbrev sRight : Stmt := tp 46
abbrev sLaw : Stmt := tp 47
theorem sqL_ext {K : PySem.W.Frag} {H H' : Hp} {a : Addr} {xs : List V} (h : SqL K H a xs) (k : LamX.ExtN H H') : SqL K H' a xs := by
  rcases h with (h | ⟨o, h⟩) | h
  · exact .inl (.inl (k _ _ h fun _ z => by cases z))
  · exact .inl (.inr ⟨o, k _ _ h fun _ z => by cases z⟩)
  · exact .inr h
section
variable {P : Program} {w : World} {K : PySem.W.Frag} {mg : Str → Option Value} {base : Heap}
def spRight (K : PySem.W.Frag) (tbp tbr : Addr) : Sp := fun vs H Q _ => ∃ p : Addr, vs = [.ref p] ∧ Rng H p ∧ LamX.Tabs (tbs tbp tbr) H ∧ ∀ H', LamX.ExtN (off H p) H' → LamX.Tabs (tbs tbp tbr) H' → Q (.bl true) H'
theorem PartsL.updL {H : Hp} {D : Addr} {xs ys : List V} {o : HO} (h : PartsL H ys) (e : H D = some (.lst xs)) : PartsL (upd H D o) ys := fun v hv => by
  obtain ⟨t, q, e1, m, s⟩ := h v hv
  refine ⟨t, q, e1, ?_, s⟩
  have m' : H t = some (.tup [.int q.num, .int (q.den : Int)]) := m
  show upd H D o t = _
  rw [upd_ne (fun z => by rw [z, e] at m'; cases m')]
  exact m'
structure LZ (P : Program) (w : World) (K : PySem.W.Frag) (mg : Str → Option Value) (base : Heap) (tbp tbr : Addr) : Prop where
  Y : LY P w K mg base
  F : Free mg
  fr : DefF P w K mg base "_law_fraction" 3 ["_law_rng_here"] (spFrac K)
  ic : DefF P w K mg base "is_cut" 3 ["value"] (spIsCut K)
  ls : DefF P w K mg base "_law_less" 1 ["_law_near", "_law_far"] (spLess K)
  pr : DefG P w K mg base "_law_pair_right" 12 ["_law_rng_here", "_law_near", "_law_far", "_law_parts"] (spPair K tbp tbr)
  rr : DefG P w K mg base "_law_range_right" 11 ["_law_rng_here", "_law_low", "_law_high", "_law_marks", "_law_parts"] (spRangeR K)
  xr : DefG P w K mg base "_law_refused_right" 12 ["_law_rng_here", "_law_low", "_law_high"] (spRefused K tbp tbr)
abbrev nRight : List Str := ["_law_rng_here", "_law_parts", "_law_turn", "_law_marks", "_law_part", "_law_near", "_law_far", "_law_low", "_law_high"]
theorem scRight : FnScope nRight ["_law_rng_here"] (defScope sRight) := ⟨rfl, rfl, rfl, by decide +kernel, rfl, by decide +kernel, by decide +kernel⟩
theorem ok_right {tbp tbr f : Addr} {fd : FuncData} (F : Fun K "_law_right" "_law_right" sRight f fd) (Z : LZ P w K mg base tbp tbr) : FnG P w K mg base CX0 13 f fd ["_law_rng_here"] (spRight K tbp tbr) := by
  obtain ⟨fF, fdF, GF, gF, bF, kF⟩ := Z.fr
  obtain ⟨fC, fdC, GC, gC, bC, kC⟩ := Z.ic
  obtain ⟨fL, fdL, GL, gL, bL, kL⟩ := Z.ls
  obtain ⟨fP, fdP, GP, gP, bP, kP⟩ := Z.pr
  obtain ⟨fG, fdG, GG, gG, bG, kG⟩ := Z.rr
  obtain ⟨fX, fdX, GX, gX, bX, kX⟩ := Z.xr
  obtain ⟨fA, fdA, GA, gA, bA, kA⟩ := Z.Y.W.V.Z.L.C.above
  obtain ⟨fB, fdB, GB, gB, bB, kB⟩ := Z.Y.W.V.ab
  obtain ⟨fH, fdH, GH, gH, bH, kH⟩ := Z.Y.W.V.hd
  obtain ⟨fR, fdR, GR, gR, bR, kR⟩ := Z.Y.W.V.rl
  obtain ⟨fCh, fdCh, GCh, gCh, bCh, kCh⟩ := Z.Y.choice
  have M := Z.F
  refine Fun.okG F scRight (fun vs H Q E h => ?_) (fun cdv A outer s H vs Q E gd hr h => ?_)
  · obtain ⟨p, rfl, _⟩ := h
    rfl
  · obtain ⟨p, rfl, R, tabs, k⟩ := h
    have r1 : Room 1 _ := hr.mono (by decide)
    have r2 : Room 2 _ := hr.mono (by decide)
    have r3 : Room 3 _ := hr.mono (by decide)
    have r4 : Room 4 _ := hr.mono (by decide)
    have r5 : Room 5 _ := hr.mono (by decide)
    have r6 : Room 6 _ := hr.mono (by decide)
    have r11 : Room 11 _ := hr.mono (by decide)
    refine ⟨_, pss_cons (ps_set (i := 1) scRight.nd rfl (Or.inr rfl) (pe_lc (own := [("_law_turn", 2)]) (g := gName 2) (tt := tYes) (te := tCall (spFrac K) [] E0 (tCons (tVar 0) tNil)) rfl scRight.nd (pi_range1 (by rfl) M.range (pa_cons pe_int pa_nil))
        (blkOk_by (own := [("_law_turn", 2)]) (N := nRight) (sc := defScope sRight) (by decide +kernel)) (fun _ _ _ _ _ => pg_name (i := 2) scRight.nd rfl (Or.inl rfl)) (fun _ _ _ _ _ => pts_nil)
        (fun _ _ _ _ _ => by exact (pe_call GF r3 rfl gF kF bF .nil pass0 (pa_cons (pv 0) pa_nil))))) (pss_cons (ps_set (i := 3) scRight.nd rfl (Or.inl rfl) (pe_lst pa_nil)) (pss_cons (ps_for PassesOwn.never rfl (pi_list (pv 1)) (pg_name (i := 4) scRight.nd rfl (Or.inl rfl)) (pss_one (ps_set (i := 3) scRight.nd rfl (Or.inl rfl) (pe_op op_cat (pv 3) (pe_lst (pa_cons (pe_tup (pa_cons (pv 4) (pa_cons pe_bl pa_nil))) (pa_cons (pe_tup (pa_cons (pv 4) (pa_cons pe_bl pa_nil))) pa_nil))))))) (pss_cons (ps_for PassesOwn.never rfl (pi_list (pv 3)) (pg_name (i := 5) scRight.nd rfl (Or.inr rfl)) (pss_cons (ps_if (pt_not (pt_val (pe_call GC r3 rfl gC kC bC .nil pass0 (pa_cons (pe_call GH r5 rfl gH kH bH .nil pass0 (pa_cons (pv 0) (pa_cons (pv 5) pa_nil))) pa_nil)))) (pss_one (ps_ret pe_bl)) pss_nil) (pss_cons (ps_for PassesOwn.never rfl (pi_list (pv 1)) (pg_name (i := 4) scRight.nd rfl (Or.inl rfl)) (pss_one (ps_if (pt_cmpR op_ne (pe_call GA r6 rfl gA kA bA .nil pass0 (pa_cons (pe_call GR r4 rfl gR kR bR .nil pass0 (pa_cons (pv 0) (pa_cons (pv 4) pa_nil))) (pa_cons (pe_call GH r5 rfl gH kH bH .nil pass0 (pa_cons (pv 0) (pa_cons (pv 5) pa_nil))) pa_nil))) (pe_call GB r2 rfl gB kB bB .nil pass0 (pa_cons (pv 4) (pa_cons (pv 5) pa_nil))) (nomark _)) (pss_one (ps_ret pe_bl)) pss_nil))) (pss_one (ps_if (pt_not (pt_val (pe_callB (cr_all rfl) (by rfl) M.all (by decide +kernel) (pa_cons (pe_lc (own := [("_law_far", 6)]) (g := gName 6) (tt := tYes) (te := tCall (spPair K tbp tbr) [] E0 (tCons (tVar 0) (tCons (tVar 5) (tCons (tVar 6) (tCons (tVar 1) tNil))))) rfl scRight.nd (pi_list (pv 3))
        (blkOk_by (own := [("_law_far", 6)]) (N := nRight) (sc := defScope sRight) (by decide +kernel)) (fun _ _ _ _ _ => pg_name (i := 6) scRight.nd rfl (Or.inl rfl)) (fun _ _ _ _ _ => pts_nil)
        (fun _ _ _ _ _ => by exact (pe_callG GP gd hr rfl gP kP bP .nil pass0 (pa_cons (pv 0) (pa_cons (pv 5) (pa_cons (pv 6) (pa_cons (pv 1) pa_nil))))))) pa_nil)))) (pss_one (ps_ret pe_bl)) pss_nil))))) (pss_cons (ps_par (i := 7) (j := 8) (by rfl) scRight.nd rfl rfl (by decide) rfl rfl (pa_cons (pe_ix ix_list (pv 1) pe_int (fun _ _ => rfl)) (pa_cons (pe_call GCh r2 rfl gCh kCh bCh .nil pass0 (pa_cons (pv 0) (pa_cons (pe_lst (pa_cons (pe_ix ix_list (pv 1) pe_int (fun _ _ => rfl)) (pa_cons (pe_ix ix_list (pv 1) pe_int (fun _ _ => rfl)) (pa_cons (pe_ix ix_list (pv 1) pe_int (fun _ _ => rfl)) pa_nil)))) pa_nil))) pa_nil)) (by rfl)) (pss_cons (ps_if (pt_val (pe_call GL r1 rfl gL kL bL .nil pass0 (pa_cons (pv 8) (pa_cons (pv 7) pa_nil)))) (pss_one (ps_par (i := 7) (j := 8) (by rfl) scRight.nd rfl rfl (by decide) rfl rfl (pa_cons (pv 8) (pa_cons (pv 7) pa_nil)) (by rfl))) pss_nil) (pss_one (ps_ret (pe_and (pe_callG GG gd r11 rfl gG kG bG .nil pass0 (pa_cons (pv 0) (pa_cons (pv 7) (pa_cons (pv 8) (pa_cons (pv 3) (pa_cons (pv 1) pa_nil)))))) (pe_one (pe_callG GX gd hr rfl gX kX bX .nil pass0 (pa_cons (pv 0) (pa_cons (pv 7) (pa_cons (pv 8) pa_nil))))))))))))), ?_⟩
    refine ⟨_, rfl, by decide, by decide, fun D hD => ?_⟩
    have Dp_ : D ≠ p := Rng.ne_new R hD
    refine lc_range (lo := 0) (n := 3) (fun i G => ∃ acc, G D = some (.lst acc) ∧ acc.length = i ∧ Same (off H p) G ∧ Rng G p ∧ PartsL G acc) ⟨[], upd_same, rfl, fun x o e => ?_, ?_, fun v hv => by cases hv⟩ ?_ ?_
    · rw [upd_ne (ne_of_none (off_some e).2 hD)]
      exact (off_some e).2
    · obtain ⟨x, y, ep, r⟩ := R
      exact ⟨x, y, by rw [upd_ne Dp_.symm]; exact ep, r⟩
    · rintro i G hi ⟨acc, hacc, lacc, s, RG, parts⟩
      refine ⟨rfl, ?_⟩
      refine ⟨_, rfl, p, rfl, RG, fun t q G' k' R' ht sz => ?_⟩
      have hacc' := k' D _ (by rw [off_ne Dp_]; exact hacc)
      have all' : PartsL G' (acc ++ [.ref t]) := fun v hv => by
        rcases List.mem_append.mp hv with hv | hv
        · exact ((parts.offR RG).same k') v hv
        · rw [List.mem_singleton.mp hv]
          exact ⟨t, q, rfl, ht, sz.mono (by decide)⟩
      refine ⟨acc, hacc', (by rw [sizeLine_eq]; omega), acc ++ [.ref t], upd_same, (by rw [List.length_append, List.length_singleton]; omega), fun x o e => ?_, ?_, all'.updL hacc'⟩
      · rw [upd_ne (ne_of_none (off_some e).2 hD)]
        exact off_off s k' x o e
      · obtain ⟨x, y, ep, r⟩ := R'
        exact ⟨x, y, by rw [upd_ne Dp_.symm]; exact ep, r⟩
    · rintro G ⟨acc, hacc, lacc, s, RG, parts⟩
      have tG : LamX.Tabs (tbs tbp tbr) G := by
        obtain ⟨x, y, ep, _⟩ := id R
        exact Tabs.same (Tabs.offP tabs ep) s
      obtain ⟨v0, v1, v2, rfl⟩ : ∃ v0 v1 v2, acc = [v0, v1, v2] := by
        match acc, lacc with
        | [a, b, c], _ => exact ⟨a, b, c, rfl⟩
      refine ⟨(by show 0 ≤ sizeLine; decide), fun l0 nl0 => ?_⟩
      have sl0 := same_new (o := .lst []) nl0
      have fl0 : upd G l0 (.lst []) l0 = some (.lst []) := upd_same
      have l0p := Rng.ne_new RG nl0
      have s0 : Same (off H p) (upd G l0 (.lst [])) := fun x o e => sl0 x o (s x o e)
      replace RG := RG.same sl0
      replace hacc := sl0 _ _ hacc
      replace parts := parts.same sl0
      replace tG := Tabs.same tG sl0
      generalize upd G l0 (.lst []) = G0 at *
      clear sl0 nl0 s lacc
      refine ⟨_, rfl, D, rfl, ⟨_, SqL.of hacc⟩, ?_⟩
      refine for_list (K := K) (a := D) (xs := [v0, v1, v2]) (fun i z G1 => Same G0 G1 ∧ ∃ (lm : Addr) (ms : List V) (w2 w4 : Option V), G1 lm = some (.lst ms) ∧ lm ≠ p ∧ ms.length = 2 * i ∧ MarksL G1 ms ∧ z = [some (.ref p), some (.ref D), w2, some (.ref lm), w4, none, none, none, none]) ?_ ?_ ?_ ?_
      · exact ⟨fun _ _ e => e, l0, [], none, none, fl0, l0p, rfl, (fun v hv => by cases hv), rfl⟩
      · rintro i z G1 _ ⟨k1, _⟩
        exact SqL.of (k1 _ _ hacc)
      · rintro i y z G1 hy ⟨k1, lm, ms, w2, w4, hlm, lmp, len, mk, rfl⟩
        have i3 : i < 3 := (List.getElem?_eq_some_iff.mp hy).1
        obtain ⟨t, q, rfl, ht, sq⟩ := (parts.same k1) y (List.mem_of_getElem? hy)
        refine ⟨_, rfl, _, rfl, (by show 2 ≤ sizeLine; decide), fun a1 n1 => ?_⟩
        have u1 := same_new (o := .tup [V.ref t, .bl false]) n1
        have f1 : upd G1 a1 (.tup [V.ref t, .bl false]) a1 = some (.tup [V.ref t, .bl false]) := upd_same
        generalize upd G1 a1 (.tup [V.ref t, .bl false]) = G2 at *
        refine ⟨_, rfl, (by show 2 ≤ sizeLine; decide), fun a2 n2 => ?_⟩
        have u2 := same_new (o := .tup [V.ref t, .bl true]) n2
        have f2 : upd G2 a2 (.tup [V.ref t, .bl true]) a2 = some (.tup [V.ref t, .bl true]) := upd_same
        generalize upd G2 a2 (.tup [V.ref t, .bl true]) = G3 at *
        refine ⟨(by show 2 ≤ sizeLine; decide), fun l1 nl1 => ?_⟩
        have u3 := same_new (o := .lst [V.ref a1, .ref a2]) nl1
        have f3 : upd G3 l1 (.lst [V.ref a1, .ref a2]) l1 = some (.lst [V.ref a1, .ref a2]) := upd_same
        generalize upd G3 l1 (.lst [V.ref a1, .ref a2]) = G4 at *
        have u14 := (u1.trans u2).trans u3
        refine ⟨lm, l1, _, _, rfl, rfl, u14 _ _ hlm, f3, (by first | (show (ms ++ [V.ref a1, .ref a2]).length ≤ sizeLine; rw [List.length_append, sizeLine_eq]; simp; omega) | (rw [sizeLine_eq]; simp; omega)), fun l2 nl2 => ?_⟩
        have u4 := same_new (o := .lst (ms ++ [V.ref a1, .ref a2])) nl2
        have u15 := u14.trans u4
        have l2p : l2 ≠ p := Rng.ne_new ((RG.same k1).same u14) nl2
        refine ⟨k1.trans u15, l2, ms ++ [V.ref a1, .ref a2], _, _, upd_same, l2p, (by rw [List.length_append]; simp; omega), fun v hv => ?_, rfl⟩
        rcases List.mem_append.mp hv with hv | hv
        · exact (mk.same u15) v hv
        · simp only [List.mem_cons, List.not_mem_nil, or_false] at hv
          rcases hv with rfl | rfl
          · exact ⟨a1, q, false, rfl, ⟨t, u4 _ _ (u3 _ _ (u2 _ _ f1)), ht.same u15⟩, sq⟩
          · exact ⟨a2, q, true, rfl, ⟨t, u4 _ _ (u3 _ _ f2), ht.same u15⟩, sq⟩
      · rintro z G1 ⟨k1, lm, ms, w2, w4, hlm, lmp, len, mk, rfl⟩
        replace hacc := k1 _ _ hacc
        replace parts := parts.same k1
        replace RG := RG.same k1
        replace tG := Tabs.same tG k1
        have s1 : Same (off H p) G1 := fun x o e => k1 x o (s0 x o e)
        clear s0 k1 fl0 l0p
        obtain ⟨B, hB⟩ : ∃ B : Hp → Prop, ∀ G, B G ↔ (LamX.ExtN (off G1 p) G ∧ Rng G p ∧ LamX.Tabs (tbs tbp tbr) G) := ⟨_, fun _ => Iff.rfl⟩
        have b1 : B G1 := (hB _).mpr ⟨same_extN rng_off, RG, tG⟩
        have stE : ∀ {G G' : Hp}, B G → LamX.ExtN G G' → LamX.Tabs (tbs tbp tbr) G' → B G' := by
          intro G G' x e tt
          obtain ⟨x1, x2, _⟩ := (hB _).mp x
          exact (hB _).mpr ⟨x1.trans e, x2.ext e, tt⟩
        have stS : ∀ {G G' : Hp}, B G → Same G G' → B G' := fun x s => stE x (same_extN s) (Tabs.same ((hB _).mp x).2.2 s)
        have stP : ∀ {G G' : Hp}, B G → LamX.ExtN (off G p) G' → Rng G' p → LamX.Tabs (tbs tbp tbr) G' → B G' := by
          intro G G' x e R' tt
          obtain ⟨x1, x2, x3⟩ := (hB _).mp x
          exact (hB _).mpr ⟨fun a o e' n => e a o (by rw [off_ne (off_some e').1]; exact x1 a o e' n) n, R', tt⟩
        have stO : ∀ {G G' : Hp}, B G → Same (off G p) G' → Rng G' p → B G' := by
          intro G G' x s R'
          refine stP x (same_extN s) R' ?_
          obtain ⟨y, z, ep, _⟩ := id ((hB _).mp x).2.1
          exact Tabs.same (Tabs.offP ((hB _).mp x).2.2 ep) s
        have R_ : ∀ {G : Hp}, B G → Rng G p := fun x => ((hB _).mp x).2.1
        have T_ : ∀ {G : Hp}, B G → LamX.Tabs (tbs tbp tbr) G := fun x => ((hB _).mp x).2.2
        have D_ : ∀ {G : Hp}, B G → G D = some (.lst [v0, v1, v2]) := fun x => ((hB _).mp x).1 D _ (by rw [off_ne Dp_]; exact hacc) (fun _ z => by cases z)
        have L_ : ∀ {G : Hp}, B G → G lm = some (.lst ms) := fun x => ((hB _).mp x).1 lm _ (by rw [off_ne lmp]; exact hlm) (fun _ z => by cases z)
        have p_ : ∀ {G : Hp}, B G → PartsL G [v0, v1, v2] := fun x => (parts.offR RG).ext ((hB _).mp x).1
        have m_ : ∀ {G : Hp}, B G → MarksL G ms := fun x => (mk.offR RG).ext ((hB _).mp x).1
        have fin : ∀ {G : Hp}, B G → LamX.ExtN (off H p) G := fun x => fun b o e n => ((hB _).mp x).1 b o (by rw [off_ne (off_some e).1]; exact s1 b o e) n
        have len6 : ms.length = 6 := len
        refine ⟨_, rfl, lm, rfl, ⟨_, SqL.of (L_ b1)⟩, ?_⟩
        refine for_list (K := K) (a := lm) (xs := ms) (fun i z G => B G ∧ ∃ (w2 w4 w5 w6 : Option V), z = [some (.ref p), some (.ref D), w2, some (.ref lm), w4, w5, w6, none, none]) ?_ ?_ ?_ ?_
        · exact ⟨b1, _, _, _, _, rfl⟩
        · rintro i z G _ ⟨w, _⟩
          exact SqL.of (L_ w)
        · rintro i y z G hy ⟨w, w2', w4', w5', w6', rfl⟩
          have mem := List.mem_of_getElem? hy
          obtain ⟨t, q, b, rfl, hm1, sq⟩ := mk y mem
          have sq1 : Sz 1000 q := sq.mono (by decide)
          have sq9 : Sz 100000 q := sq.mono (by decide)
          have mt_ : ∀ {G : Hp}, B G → MarkAt G t q b := fun x => (hm1.offR RG).ext ((hB _).mp x).1
          refine ⟨_, rfl, _, rfl, p, t, q, b, rfl, R_ w, mt_ w, sq1, fun c G2 k2 R2 hc => ⟨.ref c, q, b, rfl, hc, ⟨true, rfl, iteF ?_⟩⟩⟩
          have w2 := stO w k2 R2
          refine ⟨_, rfl, D, rfl, ⟨_, SqL.of (D_ w2)⟩, ?_⟩
          refine for_list (K := K) (a := D) (xs := [v0, v1, v2]) (fun i z G => B G ∧ ∃ (w2 w4 w6 : Option V), z = [some (.ref p), some (.ref D), w2, some (.ref lm), w4, some (.ref t), w6, none, none]) ?_ ?_ ?_ ?_
          · exact ⟨w2, _, _, _, rfl⟩
          · rintro i z G _ ⟨x, _⟩
            exact SqL.of (D_ x)
          · rintro i y z G' hy2 ⟨x, w2'', w4'', w6'', rfl⟩
            obtain ⟨tp, e, rfl, hp1, se⟩ := parts y (List.mem_of_getElem? hy2)
            have se1 : Sz 1000 e := se.mono (by decide)
            have se9 : Sz 100000 e := se.mono (by decide)
            have pt_ : ∀ {G : Hp}, B G → PartAt G tp e := fun x => (hp1.offR RG).ext ((hB _).mp x).1
            refine ⟨_, rfl, _, rfl, p, tp, e, rfl, R_ x, pt_ x, se1, fun xv G3 k3 R3 hx => ?_⟩
            have x3 := stO x k3 R3
            refine ⟨_, rfl, _, rfl, p, t, q, b, rfl, R3, mt_ x3, sq1, fun c2 G4 k4 R4 hc2 => ?_⟩
            have x4 := stO x3 k4 R4
            refine ⟨xv, .ref c2, e, q, b, rfl, (hx.offR R3).same k4, hc2, sq9, se9, fun G5 k5 => ?_⟩
            have x5 := stS x4 k5
            refine ⟨_, rfl, _, rfl, tp, t, e, q, b, rfl, pt_ x5, mt_ x5, sq1, se1, ⟨rfl, _, rfl, ite2 (fun z => absurd z (by simp)) (fun _ => ?_)⟩⟩
            exact ⟨x5, _, _, _, rfl⟩
          · rintro z G' ⟨x, w2'', w4'', w6'', rfl⟩
            refine ⟨_, rfl, lm, rfl, ⟨_, SqL.of (L_ x)⟩, fun D3 n3 => ?_⟩
            have D3p : D3 ≠ p := Rng.ne_new (R_ x) n3
            have nb : ∀ o, off G1 p D3 = some o → (∀ ps, o ≠ .tbl ps) → False := fun o e nt => by
              have z := ((hB _).mp x).1 _ _ e nt
              rw [n3] at z
              cases z
            have up : ∀ {G : Hp} {ys : List V} {o : HO}, B G → G D3 = some (.lst ys) → B (upd G D3 o) := by
              intro G ys o x e
              obtain ⟨y1, ⟨a, b, ep, r⟩, y3⟩ := (hB _).mp x
              refine (hB _).mpr ⟨fun b o e' nt => ?_, ⟨a, b, by rw [upd_ne D3p.symm]; exact ep, r⟩, tabs_updL y3 e⟩
              by_cases h : b = D3
              · rw [h] at e'
                exact (nb o e' nt).elim
              · rw [upd_ne h]
                exact y1 b o e' nt
            have x0 := stS x (same_new (o := .lst []) n3)
            refine lc_list (K := K) (a := lm) (xs := ms) (fun i G' => G' D3 = some (.lst (List.replicate i (.bl true))) ∧ B G') ⟨upd_same, x0⟩ (fun i G' _ ⟨_, y⟩ => SqL.of (L_ y)) ?_ ?_
            · rintro i y G2 hy2 ⟨hD3, y2⟩
              have il := (List.getElem?_eq_some_iff.mp hy2).1
              obtain ⟨tf, qf, bf, rfl, hf1, sf⟩ := mk y (List.mem_of_getElem? hy2)
              have mf : MarkAt G2 tf qf bf := (hf1.offR RG).ext ((hB _).mp y2).1
              refine ⟨rfl, ?_⟩
              refine ⟨_, rfl, _, rfl, _, rfl, _, rfl, p, t, tf, D, q, qf, b, bf, [v0, v1, v2], rfl, R_ y2, mt_ y2, mf, sq, sf, D_ y2, Dp_, p_ y2, T_ y2, fun G5 e5 R5 t5 => ?_⟩
              have y5 := stP y2 e5 R5 t5
              have hD5 := e5 D3 _ (by rw [off_ne D3p]; exact hD3) (fun _ z => by cases z)
              exact ⟨_, hD5, (by rw [List.length_replicate, sizeLine_eq]; omega), by rw [upd_same, List.replicate_succ'], up y5 hD5⟩
            · rintro G2 ⟨hD3, y2⟩
              refine ⟨D3, List.replicate ms.length true, rfl, SqL.of (by rw [hD3, List.map_replicate]), _, rfl, ?_⟩
              have ea : (List.replicate ms.length true).all id = true := by simp
              rw [ea]
              exact iteF ⟨y2, _, _, _, _, rfl⟩
        · rintro z G ⟨w, w2', w4', w5', w6', rfl⟩
          refine ⟨_, rfl, D, _, _, _, rfl, rfl, SqL.of (D_ w), rfl, _, rfl, _, rfl, D, _, _, _, rfl, rfl, SqL.of (D_ w), rfl, _, rfl, D, _, _, _, rfl, rfl, SqL.of (D_ w), rfl, _, rfl, D, _, _, _, rfl, rfl, SqL.of (D_ w), rfl, (by show 3 ≤ sizeLine; decide), fun lC nC => ?_⟩
          have sC := same_new (o := .lst [v0, v1, v1]) nC
          have fC_ : upd G lC (.lst [v0, v1, v1]) lC = some (.lst [v0, v1, v1]) := upd_same
          have wc := stS w sC
          have lCp : lC ≠ p := Rng.ne_new (R_ w) nC
          generalize upd G lC (.lst [v0, v1, v1]) = GC at *
          refine ⟨p, lC, _, rfl, R_ wc, fC_, lCp, by show 0 < 3; decide, by show 3 < 1000; decide, fun v Hf mv kp Rf => ?_⟩
          have wC := stO wc (off_kp kp) Rf
          obtain ⟨ta, qa, e0, hpa, sqa⟩ := parts v0 (by simp)
          have mv' : v ∈ [v0, v1, v2] := by
            simp only [List.mem_cons, List.not_mem_nil, or_false] at mv ⊢
            rcases mv with h | h | h
            · exact .inl h
            · exact .inr (.inl h)
            · exact .inr (.inl h)
          obtain ⟨tb_, qb, e1, hpb, sqb⟩ := parts v mv'
          have at_ta : ∀ {G : Hp}, B G → PartAt G ta qa := fun x => (hpa.offR RG).ext ((hB _).mp x).1
          have at_tb_ : ∀ {G : Hp}, B G → PartAt G tb_ qb := fun x => (hpb.offR RG).ext ((hB _).mp x).1
          refine ⟨_, _, rfl, ?_⟩
          refine ⟨_, rfl, _, rfl, tb_, ta, qb, qa, (by rw [e0, e1]; rfl), at_tb_ wC, at_ta wC, sqb.mono (by decide), sqa.mono (by decide), ⟨_, rfl, ?_⟩⟩
          cases hL : rBelow qb qa with
          | true =>
            have le : rBelow qa qb = false := by
              rw [rBelow_not]
              have := rBelow_iff.mp hL
              grind
            refine iteT ⟨_, rfl, _, rfl, _, _, rfl, ?_⟩
            subst e0 e1
            refine ⟨_, rfl, _, rfl, _, rfl, _, rfl, _, rfl, p, tb_, ta, lm, D, qb, qa, ms, [.ref ta, v1, v2], rfl, R_ wC, at_tb_ wC, at_ta wC, sqb, sqa, le, L_ wC, lmp, by omega, m_ wC, D_ wC, Dp_, by show 3 ≤ 90; decide, p_ wC, fun G6 k6 R6 => ⟨true, rfl, iteT ?_⟩⟩
            have w6 := stO wC k6 R6
            refine ⟨_, rfl, _, rfl, _, rfl, p, tb_, ta, qb, qa, rfl, R_ w6, at_tb_ w6, at_ta w6, sqb, sqa, le, T_ w6, fun G7 e7 R7 t7 => k G7 (fin (stP w6 e7 R7 t7)) t7⟩
          | false =>
            refine iteF ?_
            subst e0 e1
            refine ⟨_, rfl, _, rfl, _, rfl, _, rfl, _, rfl, p, ta, tb_, lm, D, qa, qb, ms, [.ref ta, v1, v2], rfl, R_ wC, at_ta wC, at_tb_ wC, sqa, sqb, hL, L_ wC, lmp, by omega, m_ wC, D_ wC, Dp_, by show 3 ≤ 90; decide, p_ wC, fun G6 k6 R6 => ⟨true, rfl, iteT ?_⟩⟩
            have w6 := stO wC k6 R6
            refine ⟨_, rfl, _, rfl, _, rfl, p, ta, tb_, qa, qb, rfl, R_ w6, at_ta w6, at_tb_ w6, sqa, sqb, hL, T_ w6, fun G7 e7 R7 t7 => k G7 (fin (stP w6 e7 R7 t7)) t7⟩
def spLaw (K : PySem.W.Frag) (tbp tbr : Addr) : Sp := fun vs H Q _ => ∃ (a : Addr) (ns : List Int), vs = [.ref a] ∧ SqL K H a (ns.map V.int) ∧ ns.length ≤ 63 ∧ LamX.Tabs (tbs tbp tbr) H ∧ ∀ H', Q (.bl true) H'
theorem scLaw : FnScope ["_law_script", "_law_k"] ["_law_script"] (defScope sLaw) := ⟨rfl, rfl, rfl, by decide +kernel, rfl, by decide +kernel, by decide +kernel⟩
theorem ok_law {tbp tbr f : Addr} {fd : FuncData} (F : Fun K "law" "law" sLaw f fd) (M : Free mg) (rg : DefF P w K mg base "_law_rng" 1 ["_law_script", "_law_spot"] (spRng K)) (rt : DefG P w K mg base "_law_right" 13 ["_law_rng_here"] (spRight K tbp tbr)) :
    FnG P w K mg base CX0 14 f fd ["_law_script"] (spLaw K tbp tbr) := by
  obtain ⟨fG, fdG, GG, gG, bG, kG⟩ := rg
  obtain ⟨fR, fdR, GR, gR, bR, kR⟩ := rt
  refine Fun.okG F scLaw (fun vs H Q E h => ?_) (fun cdv A outer s H vs Q E gd hr h => ?_)
  · obtain ⟨a, ns, rfl, _⟩ := h
    rfl
  · obtain ⟨a, ns, rfl, hS, hn, tabs, k⟩ := h
    have hr1 : Room 1 _ := hr.mono (by decide)
    refine ⟨_, pss_one (ps_ret (pe_callB (cr_all rfl) (by rfl) M.all (by decide +kernel) (pa_cons (pe_lc (own := [("_law_k", 1)]) (g := gName 1) (tt := tYes) (te := tCall (spRight K tbp tbr) [] E0 (tCons (tCall (spRng K) [] E0 (tCons (tVar 0) (tCons (tVar 1) tNil))) tNil)) rfl scLaw.nd
      (pi_range1 (by rfl) M.range (pa_cons (pe_callB (call_max2 rfl) (by rfl) M.max (by decide +kernel) (pa_cons pe_int (pa_cons (pe_callB (call_min2 rfl) (by rfl) M.min (by decide +kernel) (pa_cons pe_int (pa_cons (pe_callB call_len_seq (by rfl) M.len PySem.boot_len (pa_cons (pv 0) pa_nil)) pa_nil))) pa_nil))) pa_nil))
      (blkOk_by (own := [("_law_k", 1)]) (N := ["_law_script", "_law_k"]) (sc := defScope sLaw) (by decide +kernel)) (fun _ _ _ _ _ => pg_name (i := 1) scLaw.nd rfl (Or.inl rfl)) (fun _ _ _ _ _ => pts_nil)
      (fun _ _ _ _ _ => by exact (pe_callG GR gd hr rfl gR kR bR .nil pass0 (pa_cons (pe_call GG hr1 rfl gG kG bG .nil pass0 (pa_cons (pv 0) (pa_cons (pv 1) pa_nil))) pa_nil)))) pa_nil))), ?_⟩
    refine ⟨_, rfl, _, _, rfl, .inl hS, ?_⟩
    rw [List.length_map]
    have bd : ∀ z : Int, 0 ≤ z → z ≤ 63 → 0 ≤ (if (if z < 6 then z else 6) > 1 then (if z < 6 then z else 6) else 1) ∧ (if (if z < 6 then z else 6) > 1 then (if z < 6 then z else 6) else 1) ≤ 6 := by
      intro z h0 h1
      split <;> split <;> omega
    have b := bd ns.length (by omega) (by omega)
    refine ⟨_, _, rfl, _, _, rfl, _, rfl, Int.le_trans (by decide) b.1, Int.lt_of_le_of_lt b.2 (by decide), fun D hD => ?_⟩
    generalize (if (if (ns.length : Int) < 6 then (ns.length : Int) else 6) > 1 then (if (ns.length : Int) < 6 then (ns.length : Int) else 6) else 1) = z at b ⊢
    refine lc_range (lo := 0) (n := z.toNat) (fun i G => G D = some (.lst (List.replicate i (.bl true))) ∧ LamX.ExtN H G ∧ LamX.Tabs (tbs tbp tbr) G) ⟨upd_same, same_extN (same_new hD), Tabs.same tabs (same_new hD)⟩ ?_ ?_
    · rintro i G hi ⟨h2, s2, t2⟩
      refine ⟨rfl, ?_⟩
      refine ⟨_, rfl, _, rfl, a, ns, _, rfl, sqL_ext hS s2, by omega, by omega, fun p G1 np s3 hp => ?_⟩
      refine ⟨p, rfl, hp, Tabs.same t2 s3, fun G2 x2 t3 => ?_⟩
      have x12 : LamX.ExtN G G2 := fun y o e n => x2 y o (by rw [off_ne (ne_of_none e np)]; exact s3 _ _ e) n
      have h3 := x12 _ _ h2 fun _ z => by cases z
      refine ⟨_, h3, (by rw [List.length_replicate, sizeLine_eq]; omega), ?_, fun y o e n => ?_, tabs_updL t3 h3⟩
      · rw [upd_same, List.replicate_succ']
      · rw [upd_ne (ne_of_none e hD)]
        exact x12 _ _ (s2 _ _ e n) n
    · rintro G ⟨h2, _, _⟩
      refine ⟨D, List.replicate z.toNat true, rfl, SqL.of (by rw [h2, List.map_replicate]), ?_⟩
      have e : (List.replicate z.toNat true).all id = true := by simp
      rw [e]
      exact k _
end
end K18
set_option maxHeartbeats 0
namespace K18
open PySem PySem.Spec PyProof.Rows L2 GL
structure HY (K T : PySem.W.Frag) (h : Heap) (mg : Str → Option Value) : Prop where
  X : K.In h
  XT : T.In h
  G : h.Ns mainGlobals mg
  D : He.SaysD fas fns K
  Dx : SaysX fxs K
  S : SysK K
  B : (chks K).all id = true
  tab : tabB2 K T (lamF K) = true
theorem HY.chk {K T : PySem.W.Frag} {h : Heap} {mg : Str → Option Value} (Y : HY K T h mg) (i : Nat) {b : Bool} (e : (chks K)[i]? = some b) : b = true := List.all_eq_true.mp Y.B b (List.mem_of_getElem? e)
theorem toR {P : Program} {w : World} {K : PySem.W.Frag} {mg : Str → Option Value} {base : Heap} {CX : CXT} {k : Nat} {f : Addr} {fd : FuncData} {ps : List Str} {sp : Sp} (F : FnOk P w K mg base CX k f fd ps sp) (hb : Binds K fd ps []) : FnR P w K mg base CX k f sp := (F.raw hb .nil).imp fun vs H Q E h => by rw [List.append_nil]; exact h
theorem mro_ok {K : PySem.W.Frag} {C : Addr} (h : mroB K C = true) : ∃ cd rest, PySem.W.clsIn K C = some cd ∧ cd.mro = .ref C :: rest := by
  unfold mroB at h
  split at h
  · rename_i cd e
    split at h
    · rename_i a rest em
      have ea : a = C := eq_of_beq h
      rw [ea] at em
      exact ⟨cd, rest, e, em⟩
    · cases h
  · cases h
section
variable {P : Program} {w : World} {K T : PySem.W.Frag} {h : Heap} {mg : Str → Option Value} {base : Heap}
theorem rf (Y : HY K T h mg) : RF K mg := { cl := (He.cls_ok (Y.D.fact 54 (f := .cls "Ratio") rfl)), nT := (He.noat_ok (Y.D.fact 55 (f := .noat "Ratio" "_top") rfl)), nB := (He.noat_ok (Y.D.fact 56 (f := .noat "Ratio" "_bottom") rfl)), kc := (He.eqO_ok (Y.chk 2 (b := He.eqO (PySem.W.findIn K (.ref (He.ga K "Ratio")) "__class__") (some (some (.builtin "object.__class__")))) rfl)), sp := (of_decide_eq_true (Y.chk 0 (b := decide (PySem.W.specialIn K (.builtin "object.__class__") "__get__" = some (some (.builtin "getset_descriptor.__get__")))) rfl)), tk := (of_decide_eq_true (Y.chk 1 (b := decide (PySem.W.takesIn K (.builtin "object.__class__") = some true)) rfl)), ob := (of_decide_eq_true (Y.chk 3 (b := decide (PySem.W.mroIn K (He.ga K "Ratio") (.type "object") = some true)) rfl)), gR := (He.glo_ok Y.X Y.G (Y.D.fact 7 (f := .glo "Ratio") rfl)), ki := (of_decide_eq_true (Y.chk 8 (b := decide (PySem.W.kitOne K (.ref (He.ga K "Ratio")) (.type "int") = some false)) rfl)), isi := (He.free_ok Y.X Y.G (Y.D.fact 38 (f := .free "isinstance") rfl)), int := (He.free_ok Y.X Y.G (Y.D.fact 39 (f := .free "int") rfl)), bool := (He.free_ok Y.X Y.G (Y.D.fact 40 (f := .free "bool") rfl)) }
theorem gf (Y : HY K T h mg) : GF K mg := { cl := (He.cls_ok (Y.D.fact 58 (f := .cls "Range") rfl)), nL := (He.noat_ok (Y.D.fact 59 (f := .noat "Range" "_low") rfl)), nH := (He.noat_ok (Y.D.fact 60 (f := .noat "Range" "_high") rfl)), kc := (He.eqO_ok (Y.chk 5 (b := He.eqO (PySem.W.findIn K (.ref (He.ga K "Range")) "__class__") (some (some (.builtin "object.__class__")))) rfl)), sp := (of_decide_eq_true (Y.chk 0 (b := decide (PySem.W.specialIn K (.builtin "object.__class__") "__get__" = some (some (.builtin "getset_descriptor.__get__")))) rfl)), tk := (of_decide_eq_true (Y.chk 1 (b := decide (PySem.W.takesIn K (.builtin "object.__class__") = some true)) rfl)), ob := (of_decide_eq_true (Y.chk 6 (b := decide (PySem.W.mroIn K (He.ga K "Range") (.type "object") = some true)) rfl)), gG := (He.glo_ok Y.X Y.G (Y.D.fact 16 (f := .glo "Range") rfl)) }
theorem free_ (Y : HY K T h mg) : Free mg := { len := (He.free_ok Y.X Y.G (Y.D.fact 41 (f := .free "len") rfl)), abs := (He.free_ok Y.X Y.G (Y.D.fact 42 (f := .free "abs") rfl)), max := (He.free_ok Y.X Y.G (Y.D.fact 43 (f := .free "max") rfl)), min := (He.free_ok Y.X Y.G (Y.D.fact 44 (f := .free "min") rfl)), int := (He.free_ok Y.X Y.G (Y.D.fact 39 (f := .free "int") rfl)), divmod := (He.free_ok Y.X Y.G (Y.D.fact 45 (f := .free "divmod") rfl)), range := (He.free_ok Y.X Y.G (Y.D.fact 49 (f := .free "range") rfl)), all := (He.free_ok Y.X Y.G (Y.D.fact 48 (f := .free "all") rfl)), str := (He.free_ok Y.X Y.G (Y.D.fact 46 (f := .free "str") rfl)), list := (He.free_ok Y.X Y.G (Y.D.fact 47 (f := .free "list") rfl)), repr := (He.free_ok Y.X Y.G (Y.D.fact 51 (f := .free "repr") rfl)), any := (He.free_ok Y.X Y.G (Y.D.fact 52 (f := .free "any") rfl)) }
theorem ef (Y : HY K T h mg) : EF K mg := { xN := xcB_ok (Y.chk 25 (b := xcB K (He.ga K "InvalidNumber") .ve) rfl), xC := xcB_ok (Y.chk 29 (b := xcB K (He.ga K "InvalidCut") .ve) rfl), xS := xcB_ok (Y.chk 33 (b := xcB K (He.ga K "InvalidStretch") .ve) rfl), xR := xcB_ok (Y.chk 37 (b := xcB K (He.ga K "InvalidRange") .ve) rfl), gN := (He.glo_ok Y.X Y.G (Y.D.fact 1 (f := .glo "InvalidNumber") rfl)), gC := (He.glo_ok Y.X Y.G (Y.D.fact 2 (f := .glo "InvalidCut") rfl)), gS := (He.glo_ok Y.X Y.G (Y.D.fact 3 (f := .glo "InvalidStretch") rfl)), gR := (He.glo_ok Y.X Y.G (Y.D.fact 4 (f := .glo "InvalidRange") rfl)), nN := (He.eqO_ok (Y.chk 26 (b := He.eqO (PySem.W.findIn K (.ref (He.ga K "InvalidNumber")) "value") (some none)) rfl)), nC := (He.eqO_ok (Y.chk 30 (b := He.eqO (PySem.W.findIn K (.ref (He.ga K "InvalidCut")) "value") (some none)) rfl)), nS := (He.eqO_ok (Y.chk 34 (b := He.eqO (PySem.W.findIn K (.ref (He.ga K "InvalidStretch")) "value") (some none)) rfl)), nR := (He.eqO_ok (Y.chk 38 (b := He.eqO (PySem.W.findIn K (.ref (He.ga K "InvalidRange")) "value") (some none)) rfl)), nn := (of_decide_eq_true (Y.chk 44 (b := decide (PySem.W.exmOne K (.ref (He.ga K "InvalidNumber")) (.ref (He.ga K "InvalidNumber")) = some true)) rfl)), cn := (of_decide_eq_true (Y.chk 45 (b := decide (PySem.W.exmOne K (.ref (He.ga K "InvalidCut")) (.ref (He.ga K "InvalidNumber")) = some false)) rfl)), cc := (of_decide_eq_true (Y.chk 46 (b := decide (PySem.W.exmOne K (.ref (He.ga K "InvalidCut")) (.ref (He.ga K "InvalidCut")) = some true)) rfl)), sn := (of_decide_eq_true (Y.chk 47 (b := decide (PySem.W.exmOne K (.ref (He.ga K "InvalidStretch")) (.ref (He.ga K "InvalidNumber")) = some false)) rfl)), sc := (of_decide_eq_true (Y.chk 48 (b := decide (PySem.W.exmOne K (.ref (He.ga K "InvalidStretch")) (.ref (He.ga K "InvalidCut")) = some false)) rfl)), ss := (of_decide_eq_true (Y.chk 49 (b := decide (PySem.W.exmOne K (.ref (He.ga K "InvalidStretch")) (.ref (He.ga K "InvalidStretch")) = some true)) rfl)), rn := (of_decide_eq_true (Y.chk 50 (b := decide (PySem.W.exmOne K (.ref (He.ga K "InvalidRange")) (.ref (He.ga K "InvalidNumber")) = some false)) rfl)), rc := (of_decide_eq_true (Y.chk 51 (b := decide (PySem.W.exmOne K (.ref (He.ga K "InvalidRange")) (.ref (He.ga K "InvalidCut")) = some false)) rfl)), rs := (of_decide_eq_true (Y.chk 52 (b := decide (PySem.W.exmOne K (.ref (He.ga K "InvalidRange")) (.ref (He.ga K "InvalidStretch")) = some false)) rfl)), rr := (of_decide_eq_true (Y.chk 53 (b := decide (PySem.W.exmOne K (.ref (He.ga K "InvalidRange")) (.ref (He.ga K "InvalidRange")) = some true)) rfl)) }
theorem na (Y : HY K T h mg) : NA K := by
  refine ⟨fun n hn => ?_⟩
  · simp only [List.mem_cons, List.not_mem_nil, or_false] at hn
    rcases hn with rfl | rfl | rfl | rfl | rfl | rfl | rfl
    · exact (of_decide_eq_true (Y.chk 54 (b := decide (PySem.W.kitOne K (.type "NoneType") (.ref (He.ga K "Ratio")) = some false)) rfl))
    · exact (of_decide_eq_true (Y.chk 55 (b := decide (PySem.W.kitOne K (.type "str") (.ref (He.ga K "Ratio")) = some false)) rfl))
    · exact (of_decide_eq_true (Y.chk 56 (b := decide (PySem.W.kitOne K (.type "list") (.ref (He.ga K "Ratio")) = some false)) rfl))
    · exact (of_decide_eq_true (Y.chk 57 (b := decide (PySem.W.kitOne K (.type "tuple") (.ref (He.ga K "Ratio")) = some false)) rfl))
    · exact (of_decide_eq_true (Y.chk 58 (b := decide (PySem.W.kitOne K (.type "dict") (.ref (He.ga K "Ratio")) = some false)) rfl))
    · exact (of_decide_eq_true (Y.chk 59 (b := decide (PySem.W.kitOne K (.type "bool") (.ref (He.ga K "Ratio")) = some false)) rfl))
    · exact (of_decide_eq_true (Y.chk 60 (b := decide (PySem.W.kitOne K (.type "int") (.ref (He.ga K "Ratio")) = some false)) rfl))
theorem own_add (Y : HY K T h mg) : OwnBin K (aR K) .Add (He.ma K (aR K) "__add__") := ⟨by exact (He.meth_ok (Y.D.fact 64 (f := .meth "Ratio" "__add__") rfl)), by exact (He.eqO_ok (Y.chk 10 (b := He.eqO (PySem.W.findIn K (.ref (He.ga K "Ratio")) "__radd__") (some none)) rfl)), mro_ok (Y.chk 13 (b := mroB K (He.ga K "Ratio")) rfl), (of_decide_eq_true (Y.chk 14 (b := decide (PySem.W.subIn K (.type "int") (.ref (He.ga K "Ratio")) = some false)) rfl))⟩
theorem creadR (Y : HY K T h mg) : ClX.CRead K (aR K) (.type "type") := ⟨(Y.chk 20 (b := PySem.W.readsIn K (He.ga K "Ratio") (.type "type")) rfl), (He.eqO_ok (Y.chk 21 (b := He.eqO (PySem.W.specialIn K (.ref (He.ga K "Ratio")) "__getattribute__") (some (some (.builtin "type.__getattribute__")))) rfl))⟩
theorem d_is_integer (Y : HY K T h mg) : ∃ fd, FunD K "is_integer" "is_integer" (defArgs (tp 11)) (defBody (tp 11)) (defScope (tp 11)) [] [] (He.ga K "is_integer") fd ∧ Binds K fd ["value"] [] := by
  obtain ⟨fd, F⟩ : ∃ fd, FunD K "is_integer" "is_integer" (defArgs (tp 11)) (defBody (tp 11)) (defScope (tp 11)) [] [] (He.ga K "is_integer") fd := Y.D.def_ 4 rfl
  exact ⟨fd, F, F.bindsN fun _ _ _ _ _ _ us hl => match us, hl with | [_], _ => rfl⟩
theorem d_is_number (Y : HY K T h mg) : ∃ fd, FunD K "is_number" "is_number" (defArgs (tp 13)) (defBody (tp 13)) (defScope (tp 13)) [] [] (He.ga K "is_number") fd ∧ Binds K fd ["value"] [] := by
  obtain ⟨fd, F⟩ : ∃ fd, FunD K "is_number" "is_number" (defArgs (tp 13)) (defBody (tp 13)) (defScope (tp 13)) [] [] (He.ga K "is_number") fd := Y.D.def_ 5 rfl
  exact ⟨fd, F, F.bindsN fun _ _ _ _ _ _ us hl => match us, hl with | [_], _ => rfl⟩
theorem d_is_cut (Y : HY K T h mg) : ∃ fd, FunD K "is_cut" "is_cut" (defArgs (tp 17)) (defBody (tp 17)) (defScope (tp 17)) [] [] (He.ga K "is_cut") fd ∧ Binds K fd ["value"] [] := by
  obtain ⟨fd, F⟩ : ∃ fd, FunD K "is_cut" "is_cut" (defArgs (tp 17)) (defBody (tp 17)) (defScope (tp 17)) [] [] (He.ga K "is_cut") fd := Y.D.def_ 14 rfl
  exact ⟨fd, F, F.bindsN fun _ _ _ _ _ _ us hl => match us, hl with | [_], _ => rfl⟩
theorem d_is_stretch (Y : HY K T h mg) : ∃ fd, FunD K "is_stretch" "is_stretch" (defArgs (tp 18)) (defBody (tp 18)) (defScope (tp 18)) [] [] (He.ga K "is_stretch") fd ∧ Binds K fd ["value"] [] := by
  obtain ⟨fd, F⟩ : ∃ fd, FunD K "is_stretch" "is_stretch" (defArgs (tp 18)) (defBody (tp 18)) (defScope (tp 18)) [] [] (He.ga K "is_stretch") fd := Y.D.def_ 15 rfl
  exact ⟨fd, F, F.bindsN fun _ _ _ _ _ _ us hl => match us, hl with | [_], _ => rfl⟩
theorem d_ratio_cut (Y : HY K T h mg) : ∃ fd, FunD K "ratio_cut" "ratio_cut" (defArgs (tp 19)) (defBody (tp 19)) (defScope (tp 19)) [] [] (He.ga K "ratio_cut") fd ∧ Binds K fd ["cut"] [] := by
  obtain ⟨fd, F⟩ : ∃ fd, FunD K "ratio_cut" "ratio_cut" (defArgs (tp 19)) (defBody (tp 19)) (defScope (tp 19)) [] [] (He.ga K "ratio_cut") fd := Y.D.def_ 16 rfl
  exact ⟨fd, F, F.bindsN fun _ _ _ _ _ _ us hl => match us, hl with | [_], _ => rfl⟩
theorem d_is_above (Y : HY K T h mg) : ∃ fd, FunD K "is_above" "is_above" (defArgs (tp 20)) (defBody (tp 20)) (defScope (tp 20)) [] [] (He.ga K "is_above") fd ∧ Binds K fd ["number", "cut"] [] := by
  obtain ⟨fd, F⟩ : ∃ fd, FunD K "is_above" "is_above" (defArgs (tp 20)) (defBody (tp 20)) (defScope (tp 20)) [] [] (He.ga K "is_above") fd := Y.D.def_ 17 rfl
  exact ⟨fd, F, F.bindsN fun _ _ _ _ _ _ us hl => match us, hl with | [_, _], _ => rfl⟩
theorem d_is_ahead (Y : HY K T h mg) : ∃ fd, FunD K "is_ahead" "is_ahead" (defArgs (tp 21)) (defBody (tp 21)) (defScope (tp 21)) [] [] (He.ga K "is_ahead") fd ∧ Binds K fd ["one", "other"] [] := by
  obtain ⟨fd, F⟩ : ∃ fd, FunD K "is_ahead" "is_ahead" (defArgs (tp 21)) (defBody (tp 21)) (defScope (tp 21)) [] [] (He.ga K "is_ahead") fd := Y.D.def_ 18 rfl
  exact ⟨fd, F, F.bindsN fun _ _ _ _ _ _ us hl => match us, hl with | [_, _], _ => rfl⟩
theorem d_precedes (Y : HY K T h mg) : ∃ fd, FunD K "precedes" "precedes" (defArgs (tp 22)) (defBody (tp 22)) (defScope (tp 22)) [] [] (He.ga K "precedes") fd ∧ Binds K fd ["one", "other"] [] := by
  obtain ⟨fd, F⟩ : ∃ fd, FunD K "precedes" "precedes" (defArgs (tp 22)) (defBody (tp 22)) (defScope (tp 22)) [] [] (He.ga K "precedes") fd := Y.D.def_ 19 rfl
  exact ⟨fd, F, F.bindsN fun _ _ _ _ _ _ us hl => match us, hl with | [_, _], _ => rfl⟩
theorem d_is_within (Y : HY K T h mg) : ∃ fd, FunD K "is_within" "is_within" (defArgs (tp 23)) (defBody (tp 23)) (defScope (tp 23)) [] [] (He.ga K "is_within") fd ∧ Binds K fd ["number", "stretch"] [] := by
  obtain ⟨fd, F⟩ : ∃ fd, FunD K "is_within" "is_within" (defArgs (tp 23)) (defBody (tp 23)) (defScope (tp 23)) [] [] (He.ga K "is_within") fd := Y.D.def_ 20 rfl
  exact ⟨fd, F, F.bindsN fun _ _ _ _ _ _ us hl => match us, hl with | [_, _], _ => rfl⟩
theorem d_mark_of (Y : HY K T h mg) : ∃ fd, FunD K "mark_of" "mark_of" (defArgs (tp 24)) (defBody (tp 24)) (defScope (tp 24)) [] [] (He.ga K "mark_of") fd ∧ Binds K fd ["stretch"] [] := by
  obtain ⟨fd, F⟩ : ∃ fd, FunD K "mark_of" "mark_of" (defArgs (tp 24)) (defBody (tp 24)) (defScope (tp 24)) [] [] (He.ga K "mark_of") fd := Y.D.def_ 21 rfl
  exact ⟨fd, F, F.bindsN fun _ _ _ _ _ _ us hl => match us, hl with | [_], _ => rfl⟩
theorem d__law_rng (Y : HY K T h mg) : ∃ fd, FunD K "_law_rng" "_law_rng" (defArgs (tp 27)) (defBody (tp 27)) (defScope (tp 27)) [] [] (He.ga K "_law_rng") fd ∧ Binds K fd ["_law_script", "_law_spot"] [] := by
  obtain ⟨fd, F⟩ : ∃ fd, FunD K "_law_rng" "_law_rng" (defArgs (tp 27)) (defBody (tp 27)) (defScope (tp 27)) [] [] (He.ga K "_law_rng") fd := Y.D.def_ 30 rfl
  exact ⟨fd, F, F.bindsN fun _ _ _ _ _ _ us hl => match us, hl with | [_, _], _ => rfl⟩
theorem d__law_draw (Y : HY K T h mg) : ∃ fd, FunD K "_law_draw" "_law_draw" (defArgs (tp 28)) (defBody (tp 28)) (defScope (tp 28)) [] [] (He.ga K "_law_draw") fd ∧ Binds K fd ["_law_rng_here", "_law_many"] [] := by
  obtain ⟨fd, F⟩ : ∃ fd, FunD K "_law_draw" "_law_draw" (defArgs (tp 28)) (defBody (tp 28)) (defScope (tp 28)) [] [] (He.ga K "_law_draw") fd := Y.D.def_ 31 rfl
  exact ⟨fd, F, F.bindsN fun _ _ _ _ _ _ us hl => match us, hl with | [_, _], _ => rfl⟩
theorem d__law_choice (Y : HY K T h mg) : ∃ fd, FunD K "_law_choice" "_law_choice" (defArgs (tp 29)) (defBody (tp 29)) (defScope (tp 29)) [] [] (He.ga K "_law_choice") fd ∧ Binds K fd ["_law_rng_here", "_law_some"] [] := by
  obtain ⟨fd, F⟩ : ∃ fd, FunD K "_law_choice" "_law_choice" (defArgs (tp 29)) (defBody (tp 29)) (defScope (tp 29)) [] [] (He.ga K "_law_choice") fd := Y.D.def_ 32 rfl
  exact ⟨fd, F, F.bindsN fun _ _ _ _ _ _ us hl => match us, hl with | [_, _], _ => rfl⟩
theorem d__law_plain (Y : HY K T h mg) : ∃ fd, FunD K "_law_plain" "_law_plain" (defArgs (tp 30)) (defBody (tp 30)) (defScope (tp 30)) [] [] (He.ga K "_law_plain") fd ∧ Binds K fd ["_law_top", "_law_bottom"] [] := by
  obtain ⟨fd, F⟩ : ∃ fd, FunD K "_law_plain" "_law_plain" (defArgs (tp 30)) (defBody (tp 30)) (defScope (tp 30)) [] [] (He.ga K "_law_plain") fd := Y.D.def_ 33 rfl
  exact ⟨fd, F, F.bindsN fun _ _ _ _ _ _ us hl => match us, hl with | [_, _], _ => rfl⟩
theorem d__law_sum (Y : HY K T h mg) : ∃ fd, FunD K "_law_sum" "_law_sum" (defArgs (tp 31)) (defBody (tp 31)) (defScope (tp 31)) [] [] (He.ga K "_law_sum") fd ∧ Binds K fd ["_law_near", "_law_far"] [] := by
  obtain ⟨fd, F⟩ : ∃ fd, FunD K "_law_sum" "_law_sum" (defArgs (tp 31)) (defBody (tp 31)) (defScope (tp 31)) [] [] (He.ga K "_law_sum") fd := Y.D.def_ 34 rfl
  exact ⟨fd, F, F.bindsN fun _ _ _ _ _ _ us hl => match us, hl with | [_, _], _ => rfl⟩
theorem d__law_less (Y : HY K T h mg) : ∃ fd, FunD K "_law_less" "_law_less" (defArgs (tp 32)) (defBody (tp 32)) (defScope (tp 32)) [] [] (He.ga K "_law_less") fd ∧ Binds K fd ["_law_near", "_law_far"] [] := by
  obtain ⟨fd, F⟩ : ∃ fd, FunD K "_law_less" "_law_less" (defArgs (tp 32)) (defBody (tp 32)) (defScope (tp 32)) [] [] (He.ga K "_law_less") fd := Y.D.def_ 35 rfl
  exact ⟨fd, F, F.bindsN fun _ _ _ _ _ _ us hl => match us, hl with | [_, _], _ => rfl⟩
theorem d__law_fraction (Y : HY K T h mg) : ∃ fd, FunD K "_law_fraction" "_law_fraction" (defArgs (tp 33)) (defBody (tp 33)) (defScope (tp 33)) [] [] (He.ga K "_law_fraction") fd ∧ Binds K fd ["_law_rng_here"] [] := by
  obtain ⟨fd, F⟩ : ∃ fd, FunD K "_law_fraction" "_law_fraction" (defArgs (tp 33)) (defBody (tp 33)) (defScope (tp 33)) [] [] (He.ga K "_law_fraction") fd := Y.D.def_ 36 rfl
  exact ⟨fd, F, F.bindsN fun _ _ _ _ _ _ us hl => match us, hl with | [_], _ => rfl⟩
theorem d__law_real (Y : HY K T h mg) : ∃ fd, FunD K "_law_real" "_law_real" (defArgs (tp 34)) (defBody (tp 34)) (defScope (tp 34)) [] [] (He.ga K "_law_real") fd ∧ Binds K fd ["_law_rng_here", "_law_part"] [] := by
  obtain ⟨fd, F⟩ : ∃ fd, FunD K "_law_real" "_law_real" (defArgs (tp 34)) (defBody (tp 34)) (defScope (tp 34)) [] [] (He.ga K "_law_real") fd := Y.D.def_ 37 rfl
  exact ⟨fd, F, F.bindsN fun _ _ _ _ _ _ us hl => match us, hl with | [_, _], _ => rfl⟩
theorem d__law_is (Y : HY K T h mg) : ∃ fd, FunD K "_law_is" "_law_is" (defArgs (tp 35)) (defBody (tp 35)) (defScope (tp 35)) [] [] (He.ga K "_law_is") fd ∧ Binds K fd ["_law_made", "_law_part"] [] := by
  obtain ⟨fd, F⟩ : ∃ fd, FunD K "_law_is" "_law_is" (defArgs (tp 35)) (defBody (tp 35)) (defScope (tp 35)) [] [] (He.ga K "_law_is") fd := Y.D.def_ 38 rfl
  exact ⟨fd, F, F.bindsN fun _ _ _ _ _ _ us hl => match us, hl with | [_, _], _ => rfl⟩
theorem d__law_told (Y : HY K T h mg) : ∃ fd, FunD K "_law_told" "_law_told" (defArgs (tp 36)) (defBody (tp 36)) (defScope (tp 36)) [] [] (He.ga K "_law_told") fd ∧ Binds K fd ["_law_call"] [] := by
  obtain ⟨fd, F⟩ : ∃ fd, FunD K "_law_told" "_law_told" (defArgs (tp 36)) (defBody (tp 36)) (defScope (tp 36)) [] [] (He.ga K "_law_told") fd := Y.D.def_ 39 rfl
  exact ⟨fd, F, F.bindsN fun _ _ _ _ _ _ us hl => match us, hl with | [_], _ => rfl⟩
theorem d__law_ahead (Y : HY K T h mg) : ∃ fd, FunD K "_law_ahead" "_law_ahead" (defArgs (tp 37)) (defBody (tp 37)) (defScope (tp 37)) [] [] (He.ga K "_law_ahead") fd ∧ Binds K fd ["_law_near", "_law_far"] [] := by
  obtain ⟨fd, F⟩ : ∃ fd, FunD K "_law_ahead" "_law_ahead" (defArgs (tp 37)) (defBody (tp 37)) (defScope (tp 37)) [] [] (He.ga K "_law_ahead") fd := Y.D.def_ 40 rfl
  exact ⟨fd, F, F.bindsN fun _ _ _ _ _ _ us hl => match us, hl with | [_, _], _ => rfl⟩
theorem d__law_above (Y : HY K T h mg) : ∃ fd, FunD K "_law_above" "_law_above" (defArgs (tp 38)) (defBody (tp 38)) (defScope (tp 38)) [] [] (He.ga K "_law_above") fd ∧ Binds K fd ["_law_part", "_law_mark_here"] [] := by
  obtain ⟨fd, F⟩ : ∃ fd, FunD K "_law_above" "_law_above" (defArgs (tp 38)) (defBody (tp 38)) (defScope (tp 38)) [] [] (He.ga K "_law_above") fd := Y.D.def_ 41 rfl
  exact ⟨fd, F, F.bindsN fun _ _ _ _ _ _ us hl => match us, hl with | [_, _], _ => rfl⟩
theorem d__law_handed (Y : HY K T h mg) : ∃ fd, FunD K "_law_handed" "_law_handed" (defArgs (tp 39)) (defBody (tp 39)) (defScope (tp 39)) [] [] (He.ga K "_law_handed") fd ∧ Binds K fd ["_law_rng_here", "_law_mark_here"] [] := by
  obtain ⟨fd, F⟩ : ∃ fd, FunD K "_law_handed" "_law_handed" (defArgs (tp 39)) (defBody (tp 39)) (defScope (tp 39)) [] [] (He.ga K "_law_handed") fd := Y.D.def_ 42 rfl
  exact ⟨fd, F, F.bindsN fun _ _ _ _ _ _ us hl => match us, hl with | [_, _], _ => rfl⟩
theorem d__law_is_cut (Y : HY K T h mg) : ∃ fd, FunD K "_law_is_cut" "_law_is_cut" (defArgs (tp 40)) (defBody (tp 40)) (defScope (tp 40)) [] [] (He.ga K "_law_is_cut") fd ∧ Binds K fd ["_law_made", "_law_mark_here"] [] := by
  obtain ⟨fd, F⟩ : ∃ fd, FunD K "_law_is_cut" "_law_is_cut" (defArgs (tp 40)) (defBody (tp 40)) (defScope (tp 40)) [] [] (He.ga K "_law_is_cut") fd := Y.D.def_ 43 rfl
  exact ⟨fd, F, F.bindsN fun _ _ _ _ _ _ us hl => match us, hl with | [_, _], _ => rfl⟩
theorem d__law_mark (Y : HY K T h mg) : ∃ fd, FunD K "_law_mark" "_law_mark" (defArgs (tp 41)) (defBody (tp 41)) (defScope (tp 41)) [] [] (He.ga K "_law_mark") fd ∧ Binds K fd ["_law_first", "_law_second"] [] := by
  obtain ⟨fd, F⟩ : ∃ fd, FunD K "_law_mark" "_law_mark" (defArgs (tp 41)) (defBody (tp 41)) (defScope (tp 41)) [] [] (He.ga K "_law_mark") fd := Y.D.def_ 44 rfl
  exact ⟨fd, F, F.bindsN fun _ _ _ _ _ _ us hl => match us, hl with | [_, _], _ => rfl⟩
theorem d__law_pair_right (Y : HY K T h mg) : ∃ fd, FunD K "_law_pair_right" "_law_pair_right" (defArgs (tp 42)) (defBody (tp 42)) (defScope (tp 42)) [] [] (He.ga K "_law_pair_right") fd ∧ Binds K fd ["_law_rng_here", "_law_near", "_law_far", "_law_parts"] [] := by
  obtain ⟨fd, F⟩ : ∃ fd, FunD K "_law_pair_right" "_law_pair_right" (defArgs (tp 42)) (defBody (tp 42)) (defScope (tp 42)) [] [] (He.ga K "_law_pair_right") fd := Y.D.def_ 45 rfl
  exact ⟨fd, F, F.bindsN fun _ _ _ _ _ _ us hl => match us, hl with | [_, _, _, _], _ => rfl⟩
theorem d__law_wider_right (Y : HY K T h mg) : ∃ fd, FunD K "_law_wider_right" "_law_wider_right" (defArgs (tp 43)) (defBody (tp 43)) (defScope (tp 43)) [] [] (He.ga K "_law_wider_right") fd ∧ Binds K fd ["_law_rng_here", "_law_made", "_law_low", "_law_high", "_law_marks"] [] := by
  obtain ⟨fd, F⟩ : ∃ fd, FunD K "_law_wider_right" "_law_wider_right" (defArgs (tp 43)) (defBody (tp 43)) (defScope (tp 43)) [] [] (He.ga K "_law_wider_right") fd := Y.D.def_ 46 rfl
  exact ⟨fd, F, F.bindsN fun _ _ _ _ _ _ us hl => match us, hl with | [_, _, _, _, _], _ => rfl⟩
theorem d__law_range_right (Y : HY K T h mg) : ∃ fd, FunD K "_law_range_right" "_law_range_right" (defArgs (tp 44)) (defBody (tp 44)) (defScope (tp 44)) [] [] (He.ga K "_law_range_right") fd ∧ Binds K fd ["_law_rng_here", "_law_low", "_law_high", "_law_marks", "_law_parts"] [] := by
  obtain ⟨fd, F⟩ : ∃ fd, FunD K "_law_range_right" "_law_range_right" (defArgs (tp 44)) (defBody (tp 44)) (defScope (tp 44)) [] [] (He.ga K "_law_range_right") fd := Y.D.def_ 47 rfl
  exact ⟨fd, F, F.bindsN fun _ _ _ _ _ _ us hl => match us, hl with | [_, _, _, _, _], _ => rfl⟩
theorem d__law_refused_right (Y : HY K T h mg) : ∃ fd, FunD K "_law_refused_right" "_law_refused_right" (defArgs (tp 45)) (defBody (tp 45)) (defScope (tp 45)) [] [] (He.ga K "_law_refused_right") fd ∧ Binds K fd ["_law_rng_here", "_law_low", "_law_high"] [] := by
  obtain ⟨fd, F⟩ : ∃ fd, FunD K "_law_refused_right" "_law_refused_right" (defArgs (tp 45)) (defBody (tp 45)) (defScope (tp 45)) [] [] (He.ga K "_law_refused_right") fd := Y.D.def_ 48 rfl
  exact ⟨fd, F, F.bindsN fun _ _ _ _ _ _ us hl => match us, hl with | [_, _, _], _ => rfl⟩
theorem d__law_right (Y : HY K T h mg) : ∃ fd, FunD K "_law_right" "_law_right" (defArgs (tp 46)) (defBody (tp 46)) (defScope (tp 46)) [] [] (He.ga K "_law_right") fd ∧ Binds K fd ["_law_rng_here"] [] := by
  obtain ⟨fd, F⟩ : ∃ fd, FunD K "_law_right" "_law_right" (defArgs (tp 46)) (defBody (tp 46)) (defScope (tp 46)) [] [] (He.ga K "_law_right") fd := Y.D.def_ 49 rfl
  exact ⟨fd, F, F.bindsN fun _ _ _ _ _ _ us hl => match us, hl with | [_], _ => rfl⟩
theorem d_law (Y : HY K T h mg) : ∃ fd, FunD K "law" "law" (defArgs (tp 47)) (defBody (tp 47)) (defScope (tp 47)) [] [] (He.ga K "law") fd ∧ Binds K fd ["_law_script"] [] := by
  obtain ⟨fd, F⟩ : ∃ fd, FunD K "law" "law" (defArgs (tp 47)) (defBody (tp 47)) (defScope (tp 47)) [] [] (He.ga K "law") fd := Y.D.def_ 50 rfl
  exact ⟨fd, F, F.bindsN fun _ _ _ _ _ _ us hl => match us, hl with | [_], _ => rfl⟩
theorem d_InvalidNumber_init (Y : HY K T h mg) : ∃ fd, FunD K "__init__" "InvalidNumber.__init__" (defArgs (inClass (tp 4) 0)) (defBody (inClass (tp 4) 0)) (defScope (inClass (tp 4) 0)) [] [] (He.ma K (aIN K) "__init__") fd ∧ Binds K fd ["self", "value"] [] := by
  obtain ⟨fd, F⟩ : ∃ fd, FunD K "__init__" "InvalidNumber.__init__" (defArgs (inClass (tp 4) 0)) (defBody (inClass (tp 4) 0)) (defScope (inClass (tp 4) 0)) [] [] (He.ma K (aIN K) "__init__") fd := Y.D.def_ 0 rfl
  exact ⟨fd, F, F.bindsN fun _ _ _ _ _ _ us hl => match us, hl with | [_, _], _ => rfl⟩
theorem d_InvalidCut_init (Y : HY K T h mg) : ∃ fd, FunD K "__init__" "InvalidCut.__init__" (defArgs (inClass (tp 5) 0)) (defBody (inClass (tp 5) 0)) (defScope (inClass (tp 5) 0)) [] [] (He.ma K (aIC K) "__init__") fd ∧ Binds K fd ["self", "value"] [] := by
  obtain ⟨fd, F⟩ : ∃ fd, FunD K "__init__" "InvalidCut.__init__" (defArgs (inClass (tp 5) 0)) (defBody (inClass (tp 5) 0)) (defScope (inClass (tp 5) 0)) [] [] (He.ma K (aIC K) "__init__") fd := Y.D.def_ 1 rfl
  exact ⟨fd, F, F.bindsN fun _ _ _ _ _ _ us hl => match us, hl with | [_, _], _ => rfl⟩
theorem d_InvalidStretch_init (Y : HY K T h mg) : ∃ fd, FunD K "__init__" "InvalidStretch.__init__" (defArgs (inClass (tp 6) 0)) (defBody (inClass (tp 6) 0)) (defScope (inClass (tp 6) 0)) [] [] (He.ma K (aIS K) "__init__") fd ∧ Binds K fd ["self", "value"] [] := by
  obtain ⟨fd, F⟩ : ∃ fd, FunD K "__init__" "InvalidStretch.__init__" (defArgs (inClass (tp 6) 0)) (defBody (inClass (tp 6) 0)) (defScope (inClass (tp 6) 0)) [] [] (He.ma K (aIS K) "__init__") fd := Y.D.def_ 2 rfl
  exact ⟨fd, F, F.bindsN fun _ _ _ _ _ _ us hl => match us, hl with | [_, _], _ => rfl⟩
theorem d_InvalidRange_init (Y : HY K T h mg) : ∃ fd, FunD K "__init__" "InvalidRange.__init__" (defArgs (inClass (tp 7) 0)) (defBody (inClass (tp 7) 0)) (defScope (inClass (tp 7) 0)) [] [] (He.ma K (aIR K) "__init__") fd ∧ Binds K fd ["self", "value"] [] := by
  obtain ⟨fd, F⟩ : ∃ fd, FunD K "__init__" "InvalidRange.__init__" (defArgs (inClass (tp 7) 0)) (defBody (inClass (tp 7) 0)) (defScope (inClass (tp 7) 0)) [] [] (He.ma K (aIR K) "__init__") fd := Y.D.def_ 3 rfl
  exact ⟨fd, F, F.bindsN fun _ _ _ _ _ _ us hl => match us, hl with | [_, _], _ => rfl⟩
theorem d_Ratio_init (Y : HY K T h mg) : ∃ fd, FunD K "__init__" "Ratio.__init__" (defArgs (sRatio 0)) (defBody (sRatio 0)) (defScope (sRatio 0)) [.int 1] [] (He.ma K (aR K) "__init__") fd := Y.D.def_ 6 rfl
theorem d_Ratio_is_below (Y : HY K T h mg) : ∃ fd, FunD K "is_below" "Ratio.is_below" (defArgs (sRatio 7)) (defBody (sRatio 7)) (defScope (sRatio 7)) [] [] (He.ma K (aR K) "is_below") fd ∧ Binds K fd ["self", "other"] [] := by
  obtain ⟨fd, F⟩ : ∃ fd, FunD K "is_below" "Ratio.is_below" (defArgs (sRatio 7)) (defBody (sRatio 7)) (defScope (sRatio 7)) [] [] (He.ma K (aR K) "is_below") fd := Y.D.def_ 7 rfl
  exact ⟨fd, F, F.bindsN fun _ _ _ _ _ _ us hl => match us, hl with | [_, _], _ => rfl⟩
theorem d_Ratio_over (Y : HY K T h mg) : ∃ fd, FunD K "over" "Ratio.over" (defArgs (sRatio 8)) (defBody (sRatio 8)) (defScope (sRatio 8)) [] [] (He.ma K (aR K) "over") fd ∧ Binds K fd ["self", "other"] [] := by
  obtain ⟨fd, F⟩ : ∃ fd, FunD K "over" "Ratio.over" (defArgs (sRatio 8)) (defBody (sRatio 8)) (defScope (sRatio 8)) [] [] (He.ma K (aR K) "over") fd := Y.D.def_ 8 rfl
  exact ⟨fd, F, F.bindsN fun _ _ _ _ _ _ us hl => match us, hl with | [_, _], _ => rfl⟩
theorem d_Ratio_add (Y : HY K T h mg) : ∃ fd, FunD K "__add__" "Ratio.__add__" (defArgs (sRatio 9)) (defBody (sRatio 9)) (defScope (sRatio 9)) [] [] (He.ma K (aR K) "__add__") fd ∧ Binds K fd ["self", "other"] [] := by
  obtain ⟨fd, F⟩ : ∃ fd, FunD K "__add__" "Ratio.__add__" (defArgs (sRatio 9)) (defBody (sRatio 9)) (defScope (sRatio 9)) [] [] (He.ma K (aR K) "__add__") fd := Y.D.def_ 9 rfl
  exact ⟨fd, F, F.bindsN fun _ _ _ _ _ _ us hl => match us, hl with | [_, _], _ => rfl⟩
theorem d_Ratio_sub (Y : HY K T h mg) : ∃ fd, FunD K "__sub__" "Ratio.__sub__" (defArgs (sRatio 10)) (defBody (sRatio 10)) (defScope (sRatio 10)) [] [] (He.ma K (aR K) "__sub__") fd ∧ Binds K fd ["self", "other"] [] := by
  obtain ⟨fd, F⟩ : ∃ fd, FunD K "__sub__" "Ratio.__sub__" (defArgs (sRatio 10)) (defBody (sRatio 10)) (defScope (sRatio 10)) [] [] (He.ma K (aR K) "__sub__") fd := Y.D.def_ 10 rfl
  exact ⟨fd, F, F.bindsN fun _ _ _ _ _ _ us hl => match us, hl with | [_, _], _ => rfl⟩
theorem d_Ratio_mul (Y : HY K T h mg) : ∃ fd, FunD K "__mul__" "Ratio.__mul__" (defArgs (sRatio 11)) (defBody (sRatio 11)) (defScope (sRatio 11)) [] [] (He.ma K (aR K) "__mul__") fd ∧ Binds K fd ["self", "other"] [] := by
  obtain ⟨fd, F⟩ : ∃ fd, FunD K "__mul__" "Ratio.__mul__" (defArgs (sRatio 11)) (defBody (sRatio 11)) (defScope (sRatio 11)) [] [] (He.ma K (aR K) "__mul__") fd := Y.D.def_ 11 rfl
  exact ⟨fd, F, F.bindsN fun _ _ _ _ _ _ us hl => match us, hl with | [_, _], _ => rfl⟩
theorem d_Ratio_eq (Y : HY K T h mg) : ∃ fd, FunD K "__eq__" "Ratio.__eq__" (defArgs (sRatio 13)) (defBody (sRatio 13)) (defScope (sRatio 13)) [] [] (He.ma K (aR K) "__eq__") fd ∧ Binds K fd ["self", "other"] [] := by
  obtain ⟨fd, F⟩ : ∃ fd, FunD K "__eq__" "Ratio.__eq__" (defArgs (sRatio 13)) (defBody (sRatio 13)) (defScope (sRatio 13)) [] [] (He.ma K (aR K) "__eq__") fd := Y.D.def_ 12 rfl
  exact ⟨fd, F, F.bindsN fun _ _ _ _ _ _ us hl => match us, hl with | [_, _], _ => rfl⟩
theorem d_Ratio_repr (Y : HY K T h mg) : ∃ fd, FunD K "__repr__" "Ratio.__repr__" (defArgs (sRatio 15)) (defBody (sRatio 15)) (defScope (sRatio 15)) [] [] (He.ma K (aR K) "__repr__") fd ∧ Binds K fd ["self"] [] := by
  obtain ⟨fd, F⟩ : ∃ fd, FunD K "__repr__" "Ratio.__repr__" (defArgs (sRatio 15)) (defBody (sRatio 15)) (defScope (sRatio 15)) [] [] (He.ma K (aR K) "__repr__") fd := Y.D.def_ 13 rfl
  exact ⟨fd, F, F.bindsN fun _ _ _ _ _ _ us hl => match us, hl with | [_], _ => rfl⟩
theorem d_Range_init (Y : HY K T h mg) : ∃ fd, FunD K "__init__" "Range.__init__" (defArgs (sRange 0)) (defBody (sRange 0)) (defScope (sRange 0)) [] [] (He.ma K (aG K) "__init__") fd ∧ Binds K fd ["self", "low", "high"] [] := by
  obtain ⟨fd, F⟩ : ∃ fd, FunD K "__init__" "Range.__init__" (defArgs (sRange 0)) (defBody (sRange 0)) (defScope (sRange 0)) [] [] (He.ma K (aG K) "__init__") fd := Y.D.def_ 22 rfl
  exact ⟨fd, F, F.bindsN fun _ _ _ _ _ _ us hl => match us, hl with | [_, _, _], _ => rfl⟩
theorem d_Range_outer (Y : HY K T h mg) : ∃ fd, FunD K "outer" "Range.outer" (defArgs (sRange 3)) (defBody (sRange 3)) (defScope (sRange 3)) [] [] (He.ma K (aG K) "outer") fd ∧ Binds K fd ["self"] [] := by
  obtain ⟨fd, F⟩ : ∃ fd, FunD K "outer" "Range.outer" (defArgs (sRange 3)) (defBody (sRange 3)) (defScope (sRange 3)) [] [] (He.ma K (aG K) "outer") fd := Y.D.def_ 23 rfl
  exact ⟨fd, F, F.bindsN fun _ _ _ _ _ _ us hl => match us, hl with | [_], _ => rfl⟩
theorem d_Range_is_inner (Y : HY K T h mg) : ∃ fd, FunD K "is_inner" "Range.is_inner" (defArgs (sRange 4)) (defBody (sRange 4)) (defScope (sRange 4)) [] [] (He.ma K (aG K) "is_inner") fd ∧ Binds K fd ["self", "cut"] [] := by
  obtain ⟨fd, F⟩ : ∃ fd, FunD K "is_inner" "Range.is_inner" (defArgs (sRange 4)) (defBody (sRange 4)) (defScope (sRange 4)) [] [] (He.ma K (aG K) "is_inner") fd := Y.D.def_ 24 rfl
  exact ⟨fd, F, F.bindsN fun _ _ _ _ _ _ us hl => match us, hl with | [_, _], _ => rfl⟩
theorem d_Range_fit (Y : HY K T h mg) : ∃ fd, FunD K "fit" "Range.fit" (defArgs (sRange 5)) (defBody (sRange 5)) (defScope (sRange 5)) [] [] (He.ma K (aG K) "fit") fd ∧ Binds K fd ["self", "cut"] [] := by
  obtain ⟨fd, F⟩ : ∃ fd, FunD K "fit" "Range.fit" (defArgs (sRange 5)) (defBody (sRange 5)) (defScope (sRange 5)) [] [] (He.ma K (aG K) "fit") fd := Y.D.def_ 25 rfl
  exact ⟨fd, F, F.bindsN fun _ _ _ _ _ _ us hl => match us, hl with | [_, _], _ => rfl⟩
theorem d_Range_has_stretch (Y : HY K T h mg) : ∃ fd, FunD K "has_stretch" "Range.has_stretch" (defArgs (sRange 6)) (defBody (sRange 6)) (defScope (sRange 6)) [] [] (He.ma K (aG K) "has_stretch") fd ∧ Binds K fd ["self", "value"] [] := by
  obtain ⟨fd, F⟩ : ∃ fd, FunD K "has_stretch" "Range.has_stretch" (defArgs (sRange 6)) (defBody (sRange 6)) (defScope (sRange 6)) [] [] (He.ma K (aG K) "has_stretch") fd := Y.D.def_ 26 rfl
  exact ⟨fd, F, F.bindsN fun _ _ _ _ _ _ us hl => match us, hl with | [_, _], _ => rfl⟩
theorem d_Range_contains (Y : HY K T h mg) : ∃ fd, FunD K "__contains__" "Range.__contains__" (defArgs (sRange 7)) (defBody (sRange 7)) (defScope (sRange 7)) [] [] (He.ma K (aG K) "__contains__") fd ∧ Binds K fd ["self", "value"] [] := by
  obtain ⟨fd, F⟩ : ∃ fd, FunD K "__contains__" "Range.__contains__" (defArgs (sRange 7)) (defBody (sRange 7)) (defScope (sRange 7)) [] [] (He.ma K (aG K) "__contains__") fd := Y.D.def_ 27 rfl
  exact ⟨fd, F, F.bindsN fun _ _ _ _ _ _ us hl => match us, hl with | [_, _], _ => rfl⟩
theorem d_Range_eq (Y : HY K T h mg) : ∃ fd, FunD K "__eq__" "Range.__eq__" (defArgs (sRange 8)) (defBody (sRange 8)) (defScope (sRange 8)) [] [] (He.ma K (aG K) "__eq__") fd ∧ Binds K fd ["self", "other"] [] := by
  obtain ⟨fd, F⟩ : ∃ fd, FunD K "__eq__" "Range.__eq__" (defArgs (sRange 8)) (defBody (sRange 8)) (defScope (sRange 8)) [] [] (He.ma K (aG K) "__eq__") fd := Y.D.def_ 28 rfl
  exact ⟨fd, F, F.bindsN fun _ _ _ _ _ _ us hl => match us, hl with | [_, _], _ => rfl⟩
theorem d_Range_repr (Y : HY K T h mg) : ∃ fd, FunD K "__repr__" "Range.__repr__" (defArgs (sRange 9)) (defBody (sRange 9)) (defScope (sRange 9)) [] [] (He.ma K (aG K) "__repr__") fd ∧ Binds K fd ["self"] [] := by
  obtain ⟨fd, F⟩ : ∃ fd, FunD K "__repr__" "Range.__repr__" (defArgs (sRange 9)) (defBody (sRange 9)) (defScope (sRange 9)) [] [] (He.ma K (aG K) "__repr__") fd := Y.D.def_ 29 rfl
  exact ⟨fd, F, F.bindsN fun _ _ _ _ _ _ us hl => match us, hl with | [_], _ => rfl⟩
theorem d_Ratio_of (Y : HY K T h mg) : ∃ fd, FunD K "of" "Ratio.of" (defArgs (sRatio 1)) (defBody (sRatio 1)) (defScope (sRatio 1)) [] [] (wrapAt K (aR K) "of" "classmethod") fd ∧ Binds K fd ["cls", "number"] [] := by
  obtain ⟨fd, F⟩ : ∃ fd, FunD K "of" "Ratio.of" (defArgs (sRatio 1)) (defBody (sRatio 1)) (defScope (sRatio 1)) [] [] (wrapAt K (aR K) "of" "classmethod") fd := Y.Dx.def_ 0 rfl
  exact ⟨fd, F, F.bindsN fun _ _ _ _ _ _ us hl => match us, hl with | [_, _], _ => rfl⟩
theorem d_Ratio_top (Y : HY K T h mg) : ∃ fd, FunD K "top" "Ratio.top" (defArgs (sRatio 4)) (defBody (sRatio 4)) (defScope (sRatio 4)) [] [] (wrapAt K (aR K) "top" "property") fd ∧ Binds K fd ["self"] [] := by
  obtain ⟨fd, F⟩ : ∃ fd, FunD K "top" "Ratio.top" (defArgs (sRatio 4)) (defBody (sRatio 4)) (defScope (sRatio 4)) [] [] (wrapAt K (aR K) "top" "property") fd := Y.Dx.def_ 1 rfl
  exact ⟨fd, F, F.bindsN fun _ _ _ _ _ _ us hl => match us, hl with | [_], _ => rfl⟩
theorem d_Ratio_bottom (Y : HY K T h mg) : ∃ fd, FunD K "bottom" "Ratio.bottom" (defArgs (sRatio 5)) (defBody (sRatio 5)) (defScope (sRatio 5)) [] [] (wrapAt K (aR K) "bottom" "property") fd ∧ Binds K fd ["self"] [] := by
  obtain ⟨fd, F⟩ : ∃ fd, FunD K "bottom" "Ratio.bottom" (defArgs (sRatio 5)) (defBody (sRatio 5)) (defScope (sRatio 5)) [] [] (wrapAt K (aR K) "bottom" "property") fd := Y.Dx.def_ 2 rfl
  exact ⟨fd, F, F.bindsN fun _ _ _ _ _ _ us hl => match us, hl with | [_], _ => rfl⟩
theorem d_Range_low (Y : HY K T h mg) : ∃ fd, FunD K "low" "Range.low" (defArgs (sRange 1)) (defBody (sRange 1)) (defScope (sRange 1)) [] [] (wrapAt K (aG K) "low" "property") fd ∧ Binds K fd ["self"] [] := by
  obtain ⟨fd, F⟩ : ∃ fd, FunD K "low" "Range.low" (defArgs (sRange 1)) (defBody (sRange 1)) (defScope (sRange 1)) [] [] (wrapAt K (aG K) "low" "property") fd := Y.Dx.def_ 3 rfl
  exact ⟨fd, F, F.bindsN fun _ _ _ _ _ _ us hl => match us, hl with | [_], _ => rfl⟩
theorem d_Range_high (Y : HY K T h mg) : ∃ fd, FunD K "high" "Range.high" (defArgs (sRange 2)) (defBody (sRange 2)) (defScope (sRange 2)) [] [] (wrapAt K (aG K) "high" "property") fd ∧ Binds K fd ["self"] [] := by
  obtain ⟨fd, F⟩ : ∃ fd, FunD K "high" "Range.high" (defArgs (sRange 2)) (defBody (sRange 2)) (defScope (sRange 2)) [] [] (wrapAt K (aG K) "high" "property") fd := Y.Dx.def_ 4 rfl
  exact ⟨fd, F, F.bindsN fun _ _ _ _ _ _ us hl => match us, hl with | [_], _ => rfl⟩
end
end K18
set_option maxHeartbeats 0
namespace K18
open PySem PySem.Spec PyProof.Rows L2 GL
theorem facts {P : Program} {w : World} {K T : PySem.W.Frag} {h : Heap} {mg : Str → Option Value} {f : Addr} (Y : HY K T h mg) (hfa : mg ("law" : Str) = some (.ref f)) :
    ∃ fd : FuncData, (∀ (s : Shared) (v : Value), BindsTo s fd ⟨[v], []⟩ [("_law_script", v)]) ∧ ∀ base : Heap, K.In base → base.Ns mainGlobals mg → (∀ x ∈ (lamF K).map (fun f => (codeAt K f, tabAt K (codeAt K f))), LamX.TabB base mg x.1 x.2) →
      FnG P w K mg base CX0 14 f fd ["_law_script"] (spLaw K (tabAt K (codeAt K (He.ga K "_law_pair_right"))) (tabAt K (codeAt K (He.ga K "_law_refused_right")))) := by
  have T_ := rf Y
  have TG := gf Y
  have FR := free_ Y
  have ZE := ef Y
  have NN := na Y
  have tabs := List.all_eq_true.mp Y.tab
  obtain ⟨td1, td2⟩ := He.ba (tabs (He.ga K "_law_pair_right") List.mem_cons_self)
  obtain ⟨_, _, hcodeD⟩ := codeB_ok Y.X td1
  obtain ⟨tr1, tr2⟩ := He.ba (tabs (He.ga K "_law_refused_right") (List.mem_cons_of_mem _ List.mem_cons_self))
  obtain ⟨_, _, hcodeR⟩ := codeB_ok Y.X tr1
  obtain ⟨fd_is_integer, D_is_integer, b_is_integer⟩ := d_is_integer Y
  have F_is_integer := fun_of (st := tp 11) D_is_integer
  have g_is_integer : mg "is_integer" = some (.ref (He.ga K "is_integer")) := (He.glo_ok Y.X Y.G (Y.D.fact 5 (f := .glo "is_integer") rfl))
  obtain ⟨fd_is_number, D_is_number, b_is_number⟩ := d_is_number Y
  have F_is_number := fun_of (st := tp 13) D_is_number
  have g_is_number : mg "is_number" = some (.ref (He.ga K "is_number")) := (He.glo_ok Y.X Y.G (Y.D.fact 6 (f := .glo "is_number") rfl))
  obtain ⟨fd_is_cut, D_is_cut, b_is_cut⟩ := d_is_cut Y
  have F_is_cut := fun_of (st := tp 17) D_is_cut
  have g_is_cut : mg "is_cut" = some (.ref (He.ga K "is_cut")) := (He.glo_ok Y.X Y.G (Y.D.fact 8 (f := .glo "is_cut") rfl))
  obtain ⟨fd_is_stretch, D_is_stretch, b_is_stretch⟩ := d_is_stretch Y
  have F_is_stretch := fun_of (st := tp 18) D_is_stretch
  have g_is_stretch : mg "is_stretch" = some (.ref (He.ga K "is_stretch")) := (He.glo_ok Y.X Y.G (Y.D.fact 9 (f := .glo "is_stretch") rfl))
  obtain ⟨fd_ratio_cut, D_ratio_cut, b_ratio_cut⟩ := d_ratio_cut Y
  have F_ratio_cut := fun_of (st := tp 19) D_ratio_cut
  have g_ratio_cut : mg "ratio_cut" = some (.ref (He.ga K "ratio_cut")) := (He.glo_ok Y.X Y.G (Y.D.fact 10 (f := .glo "ratio_cut") rfl))
  obtain ⟨fd_is_above, D_is_above, b_is_above⟩ := d_is_above Y
  have F_is_above := fun_of (st := tp 20) D_is_above
  have g_is_above : mg "is_above" = some (.ref (He.ga K "is_above")) := (He.glo_ok Y.X Y.G (Y.D.fact 11 (f := .glo "is_above") rfl))
  obtain ⟨fd_is_ahead, D_is_ahead, b_is_ahead⟩ := d_is_ahead Y
  have F_is_ahead := fun_of (st := tp 21) D_is_ahead
  have g_is_ahead : mg "is_ahead" = some (.ref (He.ga K "is_ahead")) := (He.glo_ok Y.X Y.G (Y.D.fact 12 (f := .glo "is_ahead") rfl))
  obtain ⟨fd_precedes, D_precedes, b_precedes⟩ := d_precedes Y
  have F_precedes := fun_of (st := tp 22) D_precedes
  have g_precedes : mg "precedes" = some (.ref (He.ga K "precedes")) := (He.glo_ok Y.X Y.G (Y.D.fact 13 (f := .glo "precedes") rfl))
  obtain ⟨fd_is_within, D_is_within, b_is_within⟩ := d_is_within Y
  have F_is_within := fun_of (st := tp 23) D_is_within
  have g_is_within : mg "is_within" = some (.ref (He.ga K "is_within")) := (He.glo_ok Y.X Y.G (Y.D.fact 14 (f := .glo "is_within") rfl))
  obtain ⟨fd_mark_of, D_mark_of, b_mark_of⟩ := d_mark_of Y
  have F_mark_of := fun_of (st := tp 24) D_mark_of
  have g_mark_of : mg "mark_of" = some (.ref (He.ga K "mark_of")) := (He.glo_ok Y.X Y.G (Y.D.fact 15 (f := .glo "mark_of") rfl))
  obtain ⟨fd_lrng, D_lrng, b_lrng⟩ := d__law_rng Y
  have F_lrng := fun_of (st := tp 27) D_lrng
  have g_lrng : mg "_law_rng" = some (.ref (He.ga K "_law_rng")) := (He.glo_ok Y.X Y.G (Y.D.fact 17 (f := .glo "_law_rng") rfl))
  obtain ⟨fd_ldraw, D_ldraw, b_ldraw⟩ := d__law_draw Y
  have F_ldraw := fun_of (st := tp 28) D_ldraw
  have g_ldraw : mg "_law_draw" = some (.ref (He.ga K "_law_draw")) := (He.glo_ok Y.X Y.G (Y.D.fact 18 (f := .glo "_law_draw") rfl))
  obtain ⟨fd_lchoice, D_lchoice, b_lchoice⟩ := d__law_choice Y
  have F_lchoice := fun_of (st := tp 29) D_lchoice
  have g_lchoice : mg "_law_choice" = some (.ref (He.ga K "_law_choice")) := (He.glo_ok Y.X Y.G (Y.D.fact 19 (f := .glo "_law_choice") rfl))
  obtain ⟨fd_lplain, D_lplain, b_lplain⟩ := d__law_plain Y
  have F_lplain := fun_of (st := tp 30) D_lplain
  have g_lplain : mg "_law_plain" = some (.ref (He.ga K "_law_plain")) := (He.glo_ok Y.X Y.G (Y.D.fact 20 (f := .glo "_law_plain") rfl))
  obtain ⟨fd_lsum, D_lsum, b_lsum⟩ := d__law_sum Y
  have F_lsum := fun_of (st := tp 31) D_lsum
  have g_lsum : mg "_law_sum" = some (.ref (He.ga K "_law_sum")) := (He.glo_ok Y.X Y.G (Y.D.fact 21 (f := .glo "_law_sum") rfl))
  obtain ⟨fd_lless, D_lless, b_lless⟩ := d__law_less Y
  have F_lless := fun_of (st := tp 32) D_lless
  have g_lless : mg "_law_less" = some (.ref (He.ga K "_law_less")) := (He.glo_ok Y.X Y.G (Y.D.fact 22 (f := .glo "_law_less") rfl))
  obtain ⟨fd_lfraction, D_lfraction, b_lfraction⟩ := d__law_fraction Y
  have F_lfraction := fun_of (st := tp 33) D_lfraction
  have g_lfraction : mg "_law_fraction" = some (.ref (He.ga K "_law_fraction")) := (He.glo_ok Y.X Y.G (Y.D.fact 23 (f := .glo "_law_fraction") rfl))
  obtain ⟨fd_lreal, D_lreal, b_lreal⟩ := d__law_real Y
  have F_lreal := fun_of (st := tp 34) D_lreal
  have g_lreal : mg "_law_real" = some (.ref (He.ga K "_law_real")) := (He.glo_ok Y.X Y.G (Y.D.fact 24 (f := .glo "_law_real") rfl))
  obtain ⟨fd_lis, D_lis, b_lis⟩ := d__law_is Y
  have F_lis := fun_of (st := tp 35) D_lis
  have g_lis : mg "_law_is" = some (.ref (He.ga K "_law_is")) := (He.glo_ok Y.X Y.G (Y.D.fact 25 (f := .glo "_law_is") rfl))
  obtain ⟨fd_ltold, D_ltold, b_ltold⟩ := d__law_told Y
  have F_ltold := fun_of (st := tp 36) D_ltold
  have g_ltold : mg "_law_told" = some (.ref (He.ga K "_law_told")) := (He.glo_ok Y.X Y.G (Y.D.fact 26 (f := .glo "_law_told") rfl))
  obtain ⟨fd_lahead, D_lahead, b_lahead⟩ := d__law_ahead Y
  have F_lahead := fun_of (st := tp 37) D_lahead
  have g_lahead : mg "_law_ahead" = some (.ref (He.ga K "_law_ahead")) := (He.glo_ok Y.X Y.G (Y.D.fact 27 (f := .glo "_law_ahead") rfl))
  obtain ⟨fd_labove, D_labove, b_labove⟩ := d__law_above Y
  have F_labove := fun_of (st := tp 38) D_labove
  have g_labove : mg "_law_above" = some (.ref (He.ga K "_law_above")) := (He.glo_ok Y.X Y.G (Y.D.fact 28 (f := .glo "_law_above") rfl))
  obtain ⟨fd_lhanded, D_lhanded, b_lhanded⟩ := d__law_handed Y
  have F_lhanded := fun_of (st := tp 39) D_lhanded
  have g_lhanded : mg "_law_handed" = some (.ref (He.ga K "_law_handed")) := (He.glo_ok Y.X Y.G (Y.D.fact 29 (f := .glo "_law_handed") rfl))
  obtain ⟨fd_lis_cut, D_lis_cut, b_lis_cut⟩ := d__law_is_cut Y
  have F_lis_cut := fun_of (st := tp 40) D_lis_cut
  have g_lis_cut : mg "_law_is_cut" = some (.ref (He.ga K "_law_is_cut")) := (He.glo_ok Y.X Y.G (Y.D.fact 30 (f := .glo "_law_is_cut") rfl))
  obtain ⟨fd_lmark, D_lmark, b_lmark⟩ := d__law_mark Y
  have F_lmark := fun_of (st := tp 41) D_lmark
  have g_lmark : mg "_law_mark" = some (.ref (He.ga K "_law_mark")) := (He.glo_ok Y.X Y.G (Y.D.fact 31 (f := .glo "_law_mark") rfl))
  obtain ⟨fd_lpair_right, D_lpair_right, b_lpair_right⟩ := d__law_pair_right Y
  have F_lpair_right := fun_of (st := tp 42) D_lpair_right
  have g_lpair_right : mg "_law_pair_right" = some (.ref (He.ga K "_law_pair_right")) := (He.glo_ok Y.X Y.G (Y.D.fact 32 (f := .glo "_law_pair_right") rfl))
  obtain ⟨fd_lwider_right, D_lwider_right, b_lwider_right⟩ := d__law_wider_right Y
  have F_lwider_right := fun_of (st := tp 43) D_lwider_right
  have g_lwider_right : mg "_law_wider_right" = some (.ref (He.ga K "_law_wider_right")) := (He.glo_ok Y.X Y.G (Y.D.fact 33 (f := .glo "_law_wider_right") rfl))
  obtain ⟨fd_lrange_right, D_lrange_right, b_lrange_right⟩ := d__law_range_right Y
  have F_lrange_right := fun_of (st := tp 44) D_lrange_right
  have g_lrange_right : mg "_law_range_right" = some (.ref (He.ga K "_law_range_right")) := (He.glo_ok Y.X Y.G (Y.D.fact 34 (f := .glo "_law_range_right") rfl))
  obtain ⟨fd_lrefused_right, D_lrefused_right, b_lrefused_right⟩ := d__law_refused_right Y
  have F_lrefused_right := fun_of (st := tp 45) D_lrefused_right
  have g_lrefused_right : mg "_law_refused_right" = some (.ref (He.ga K "_law_refused_right")) := (He.glo_ok Y.X Y.G (Y.D.fact 35 (f := .glo "_law_refused_right") rfl))
  obtain ⟨fd_lright, D_lright, b_lright⟩ := d__law_right Y
  have F_lright := fun_of (st := tp 46) D_lright
  have g_lright : mg "_law_right" = some (.ref (He.ga K "_law_right")) := (He.glo_ok Y.X Y.G (Y.D.fact 36 (f := .glo "_law_right") rfl))
  obtain ⟨fd_law, D_law, b_law⟩ := d_law Y
  have F_law := fun_of (st := tp 47) D_law
  have g_law : mg "law" = some (.ref (He.ga K "law")) := (He.glo_ok Y.X Y.G (Y.D.fact 37 (f := .glo "law") rfl))
  obtain ⟨fd_InvalidNumber_init, F_InvalidNumber_init, b_InvalidNumber_init⟩ := d_InvalidNumber_init Y
  obtain ⟨fd_InvalidCut_init, F_InvalidCut_init, b_InvalidCut_init⟩ := d_InvalidCut_init Y
  obtain ⟨fd_InvalidStretch_init, F_InvalidStretch_init, b_InvalidStretch_init⟩ := d_InvalidStretch_init Y
  obtain ⟨fd_InvalidRange_init, F_InvalidRange_init, b_InvalidRange_init⟩ := d_InvalidRange_init Y
  obtain ⟨fd_Ratio_init, F_Ratio_init⟩ := d_Ratio_init Y
  obtain ⟨fd_Ratio_is_below, F_Ratio_is_below, b_Ratio_is_below⟩ := d_Ratio_is_below Y
  obtain ⟨fd_Ratio_over, F_Ratio_over, b_Ratio_over⟩ := d_Ratio_over Y
  obtain ⟨fd_Ratio_add, F_Ratio_add, b_Ratio_add⟩ := d_Ratio_add Y
  obtain ⟨fd_Ratio_sub, F_Ratio_sub, b_Ratio_sub⟩ := d_Ratio_sub Y
  obtain ⟨fd_Ratio_mul, F_Ratio_mul, b_Ratio_mul⟩ := d_Ratio_mul Y
  obtain ⟨fd_Ratio_eq, F_Ratio_eq, b_Ratio_eq⟩ := d_Ratio_eq Y
  obtain ⟨fd_Ratio_repr, F_Ratio_repr, b_Ratio_repr⟩ := d_Ratio_repr Y
  obtain ⟨fd_Range_init, F_Range_init, b_Range_init⟩ := d_Range_init Y
  obtain ⟨fd_Range_outer, F_Range_outer, b_Range_outer⟩ := d_Range_outer Y
  obtain ⟨fd_Range_is_inner, F_Range_is_inner, b_Range_is_inner⟩ := d_Range_is_inner Y
  obtain ⟨fd_Range_fit, F_Range_fit, b_Range_fit⟩ := d_Range_fit Y
  obtain ⟨fd_Range_has_stretch, F_Range_has_stretch, b_Range_has_stretch⟩ := d_Range_has_stretch Y
  obtain ⟨fd_Range_contains, F_Range_contains, b_Range_contains⟩ := d_Range_contains Y
  obtain ⟨fd_Range_eq, F_Range_eq, b_Range_eq⟩ := d_Range_eq Y
  obtain ⟨fd_Range_repr, F_Range_repr, b_Range_repr⟩ := d_Range_repr Y
  obtain ⟨fd_Ratio_of, F_Ratio_of, b_Ratio_of⟩ := d_Ratio_of Y
  obtain ⟨fd_Ratio_top, F_Ratio_top, b_Ratio_top⟩ := d_Ratio_top Y
  obtain ⟨fd_Ratio_bottom, F_Ratio_bottom, b_Ratio_bottom⟩ := d_Ratio_bottom Y
  obtain ⟨fd_Range_low, F_Range_low, b_Range_low⟩ := d_Range_low Y
  obtain ⟨fd_Range_high, F_Range_high, b_Range_high⟩ := d_Range_high Y
  obtain ⟨dI, vI, bI, bI0⟩ := rInit_binds F_Ratio_init
  have e := hfa.symm.trans g_law
  cases e
  have hcR : fd_lrefused_right.code = .ref (codeAt K (He.ga K "_law_refused_right")) := by
    obtain ⟨oc, od, kV, doc, pm, an, cdv, ct, osl, e1, lk, _⟩ := F_lrefused_right.ex
    exact hcodeR _ _ _ _ lk
  have hcP : fd_lpair_right.code = .ref (codeAt K (He.ga K "_law_pair_right")) := by
    obtain ⟨oc, od, kV, doc, pm, an, cdv, ct, osl, e1, lk, _⟩ := F_lpair_right.ex
    exact hcodeD _ _ _ _ lk
  refine ⟨fd_law, fun s v => ?_, fun base _ _ TBs => ?_⟩
  · exact FunD.bindsA (ps := ["_law_script"]) D_law (fun _ _ _ _ _ _ us hl => match us, hl with | [_], _ => rfl) s [v] rfl
  · have OI : FnOk P w K mg base CX0 1 _ fd_is_integer ["value"] (spIsInt K) := ok_isInt F_is_integer T_
    have ORI : FnOk P w K mg base CX0 2 _ fd_Ratio_init ["self", "top", "bottom"] (spRInit K) := ok_rInit F_Ratio_init T_ F_is_integer g_is_integer b_is_integer (PySem.W.mg_of Y.X Y.G (He.eqO_ok (Y.chk 24 (b := He.eqO (PySem.W.nsIn K mainGlobals "gcd") (some (some (.builtin "math.gcd")))) rfl)))
    have G : RG P w K mg base := ⟨T_, (of_decide_eq_true (Y.chk 9 (b := decide (PySem.W.kitOne K (.type "int") (.ref (He.ga K "Ratio")) = some false)) rfl)), ⟨_, _, OI, g_is_integer, b_is_integer, D_is_integer.kp⟩, ⟨_, _, dI, (He.mkr_ok (Y.D.fact 57 (f := .mkr "Ratio") rfl)), ORI, vI, bI, bI0⟩⟩
    have OOf : FnOk P w K mg base CX0 4 _ fd_Ratio_of ["cls", "number"] (spOf K) := ok_of F_Ratio_of G
    have Rh : RH P w K mg base := ⟨G, ⟨_, _, _, creadR Y, cmetB_ok (Y.chk 19 (b := cmetB K (He.ga K "Ratio") (.type "type") "of") rfl), toR OOf b_Ratio_of⟩⟩
    have OBl : FnOk P w K mg base CX0 5 _ fd_Ratio_is_below ["self", "other"] (spBelow K) := ok_below F_Ratio_is_below Rh
    have OOv : FnOk P w K mg base CX0 5 _ fd_Ratio_over ["self", "other"] (spBin K rOver fun _ r => r.num ≠ 0) := ok_over F_Ratio_over Rh
    have OAd : FnOk P w K mg base CX0 5 _ fd_Ratio_add ["self", "other"] (spBin K rAdd fun _ _ => True) := ok_rAdd F_Ratio_add Rh
    have OSb : FnOk P w K mg base CX0 5 _ fd_Ratio_sub ["self", "other"] (spBin K rSub fun _ _ => True) := ok_rSub F_Ratio_sub Rh
    have OMl : FnOk P w K mg base CX0 5 _ fd_Ratio_mul ["self", "other"] (spBin K rMul fun _ _ => True) := ok_rMul F_Ratio_mul Rh
    have OEq : FnOk P w K mg base CX0 1 _ fd_Ratio_eq ["self", "other"] (spREq K) := ok_rEq F_Ratio_eq T_
    have OIn : FnOk P w K mg base CX0 2 _ fd_is_number ["value"] (spIsNum K) := ok_isNum F_is_number T_ F_is_integer g_is_integer b_is_integer (of_decide_eq_true (Y.chk 9 (b := decide (PySem.W.kitOne K (.type "int") (.ref (He.ga K "Ratio")) = some false)) rfl))
    have I : RI P w K mg base := ⟨Rh, ⟨_, _, OIn, g_is_number, b_is_number, D_is_number.kp⟩, ⟨_, _, (He.meth_ok (Y.D.fact 62 (f := .meth "Ratio" "is_below") rfl)), OBl, b_Ratio_is_below⟩, ⟨_, ⟨(He.meth_ok (Y.D.fact 67 (f := .meth "Ratio" "__eq__") rfl)), (He.eqO_ok (Y.chk 4 (b := He.eqO (PySem.W.findIn K (.ref (He.ga K "Ratio")) "__ne__") (some (some (.builtin "object.__ne__")))) rfl)), (of_decide_eq_true (Y.chk 3 (b := decide (PySem.W.mroIn K (He.ga K "Ratio") (.type "object") = some true)) rfl))⟩, toR OEq b_Ratio_eq⟩, FR.len, (He.free_ok Y.X Y.G (Y.D.fact 50 (f := .free "tuple") rfl))⟩
    have OIc : FnOk P w K mg base CX0 3 _ fd_is_cut ["value"] (spIsCut K) := ok_isCut F_is_cut I
    have ORc : FnOk P w K mg base CX0 5 _ fd_ratio_cut ["cut"] (spRatioCut K) := ok_ratioCut F_ratio_cut I F_is_cut g_is_cut b_is_cut
    have J : RJ P w K mg base := ⟨I, ⟨_, _, ORc, g_ratio_cut, b_ratio_cut, D_ratio_cut.kp⟩⟩
    have OAb : FnOk P w K mg base CX0 6 _ fd_is_above ["number", "cut"] (spIsAbove K) := ok_isAbove F_is_above J
    have OPr : FnOk P w K mg base CX0 6 _ fd_precedes ["one", "other"] (spPrec K) := ok_prec F_precedes J
    have OAh : FnOk P w K mg base CX0 7 _ fd_is_ahead ["one", "other"] (spIsAhead K) := ok_isAhead F_is_ahead J F_precedes g_precedes b_precedes
    have C : RK P w K mg base := ⟨J, ⟨_, _, OIc, g_is_cut, b_is_cut, D_is_cut.kp⟩, ⟨_, _, OAb, g_is_above, b_is_above, D_is_above.kp⟩, ⟨_, _, OAh, g_is_ahead, b_is_ahead, D_is_ahead.kp⟩, ⟨_, own_add Y, toR OAd b_Ratio_add⟩, ⟨_, _, (He.meth_ok (Y.D.fact 63 (f := .meth "Ratio" "over") rfl)), OOv, b_Ratio_over⟩⟩
    have OSt : FnOk P w K mg base CX0 8 _ fd_is_stretch ["value"] (spIsStretch K) := ok_isStretch F_is_stretch C
    have OWi : FnOk P w K mg base CX0 9 _ fd_is_within ["number", "stretch"] (spIsWithin K) := ok_isWithin F_is_within C F_is_stretch g_is_stretch b_is_stretch
    have OMk : FnOk P w K mg base CX0 9 _ fd_mark_of ["stretch"] (spMarkOf K) := ok_markOf F_mark_of C F_is_stretch g_is_stretch b_is_stretch
    have OGI : FnOk P w K mg base CX0 6 _ fd_Range_init ["self", "low", "high"] (spGInit K) := ok_gInit F_Range_init C TG
    have OGl : FnOk P w K mg base CX0 1 _ fd_Range_low ["self"] (spGetR K fun q _ => q) := ok_g_low F_Range_low TG
    have OGh : FnOk P w K mg base CX0 1 _ fd_Range_high ["self"] (spGetR K fun _ r => r) := ok_g_high F_Range_high TG
    have OOu : FnOk P w K mg base CX0 1 _ fd_Range_outer ["self"] (spOuter K) := ok_outer F_Range_outer TG
    have OOR : FnOk P w K mg base CX0 1 _ fd_Range_outer ["self"] (spOuterR K) := ok_outerR F_Range_outer TG
    have L : RL P w K mg base := ⟨C, TG, ⟨_, _, (He.meth_ok (Y.D.fact 69 (f := .meth "Range" "outer") rfl)), OOu, b_Range_outer⟩⟩
    have OInn : FnOk P w K mg base CX0 8 _ fd_Range_is_inner ["self", "cut"] (spInner K) := ok_inner F_Range_is_inner L
    have OFit : FnOk P w K mg base CX0 9 _ fd_Range_fit ["self", "cut"] (spFitR K) := ok_fitR F_Range_fit L ⟨_, _, (He.meth_ok (Y.D.fact 69 (f := .meth "Range" "outer") rfl)), OOR, b_Range_outer⟩ (He.meth_ok (Y.D.fact 70 (f := .meth "Range" "is_inner") rfl)) b_Range_is_inner OInn
    have OHas : FnOk P w K mg base CX0 9 _ fd_Range_has_stretch ["self", "value"] (spHas K) := ok_has F_Range_has_stretch L F_is_stretch g_is_stretch b_is_stretch
    have OHol : FnOk P w K mg base CX0 6 _ fd_Range_contains ["self", "value"] (spHolds K) := ok_holds F_Range_contains L
    have OGE : FnOk P w K mg base CX0 2 _ fd_Range_eq ["self", "other"] (spGEq K) := ok_gEq F_Range_eq I TG
    have OTp : FnOk P w K mg base CX0 1 _ fd_Ratio_top ["self"] (fun vs H Q _ => ∃ (a : Addr) (q : Rat), vs = [.ref a] ∧ RatAt K H a q ∧ Q (.int q.num) H) := ok_top F_Ratio_top T_
    have OBt : FnOk P w K mg base CX0 1 _ fd_Ratio_bottom ["self"] (fun vs H Q _ => ∃ (a : Addr) (q : Rat), vs = [.ref a] ∧ RatAt K H a q ∧ Q (.int (q.den : Int)) H) := ok_bottom F_Ratio_bottom T_
    have Rr : RepF P w K mg base := ⟨_, _, (He.meth_ok (Y.D.fact 68 (f := .meth "Ratio" "__repr__") rfl)), ok_repr F_Ratio_repr T_, b_Ratio_repr⟩
    have OGR : FnOk P w K mg base CX0 3 _ fd_Range_repr ["self"] (spGRepr K) := ok_gRepr F_Range_repr TG Rr
    have OEN : FnOk P w K mg base CX0 1 _ fd_InvalidNumber_init ["self", "value"] (spInit (aIN K) ["value"]) := ok_init1 (fun_of (st := inClass (tp 4) 0) F_InvalidNumber_init) ZE.xN ZE.nN rfl ⟨rfl, rfl, rfl, by decide +kernel, rfl, by decide +kernel, by decide +kernel⟩ rfl rfl (by decide) (by decide)
    have OEC : FnOk P w K mg base CX0 1 _ fd_InvalidCut_init ["self", "value"] (spInit (aIC K) ["value"]) := ok_init1 (fun_of (st := inClass (tp 5) 0) F_InvalidCut_init) ZE.xC ZE.nC rfl ⟨rfl, rfl, rfl, by decide +kernel, rfl, by decide +kernel, by decide +kernel⟩ rfl rfl (by decide) (by decide)
    have OES : FnOk P w K mg base CX0 1 _ fd_InvalidStretch_init ["self", "value"] (spInit (aIS K) ["value"]) := ok_init1 (fun_of (st := inClass (tp 6) 0) F_InvalidStretch_init) ZE.xS ZE.nS rfl ⟨rfl, rfl, rfl, by decide +kernel, rfl, by decide +kernel, by decide +kernel⟩ rfl rfl (by decide) (by decide)
    have OER : FnOk P w K mg base CX0 1 _ fd_InvalidRange_init ["self", "value"] (spInit (aIR K) ["value"]) := ok_init1 (fun_of (st := inClass (tp 7) 0) F_InvalidRange_init) ZE.xR ZE.nR rfl ⟨rfl, rfl, rfl, by decide +kernel, rfl, by decide +kernel, by decide +kernel⟩ rfl rfl (by decide) (by decide)
    have EMx : EM P w K mg base := ⟨ZE, ⟨_, _, (He.eqO_ok (Y.chk 27 (b := He.eqO (PySem.W.findIn K (.ref (He.ga K "InvalidNumber")) "__init__") (some (some (.ref (He.ma K (He.ga K "InvalidNumber") "__init__"))))) rfl)), (of_decide_eq_true (Y.chk 28 (b := decide (PySem.W.typeIn K (.ref (He.ma K (He.ga K "InvalidNumber") "__init__")) = some (.type "function"))) rfl)), OEN, b_InvalidNumber_init⟩, ⟨_, _, (He.eqO_ok (Y.chk 31 (b := He.eqO (PySem.W.findIn K (.ref (He.ga K "InvalidCut")) "__init__") (some (some (.ref (He.ma K (He.ga K "InvalidCut") "__init__"))))) rfl)), (of_decide_eq_true (Y.chk 32 (b := decide (PySem.W.typeIn K (.ref (He.ma K (He.ga K "InvalidCut") "__init__")) = some (.type "function"))) rfl)), OEC, b_InvalidCut_init⟩, ⟨_, _, (He.eqO_ok (Y.chk 35 (b := He.eqO (PySem.W.findIn K (.ref (He.ga K "InvalidStretch")) "__init__") (some (some (.ref (He.ma K (He.ga K "InvalidStretch") "__init__"))))) rfl)), (of_decide_eq_true (Y.chk 36 (b := decide (PySem.W.typeIn K (.ref (He.ma K (He.ga K "InvalidStretch") "__init__")) = some (.type "function"))) rfl)), OES, b_InvalidStretch_init⟩, ⟨_, _, (He.eqO_ok (Y.chk 39 (b := He.eqO (PySem.W.findIn K (.ref (He.ga K "InvalidRange")) "__init__") (some (some (.ref (He.ma K (He.ga K "InvalidRange") "__init__"))))) rfl)), (of_decide_eq_true (Y.chk 40 (b := decide (PySem.W.typeIn K (.ref (He.ma K (He.ga K "InvalidRange") "__init__")) = some (.type "function"))) rfl)), OER, b_InvalidRange_init⟩⟩
    have XRI : FnOk P w K mg base (L2.CX P w) 3 _ fd_Ratio_init ["self", "top", "bottom"] (spRInitX K) := ok_rInitX F_Ratio_init G EMx
    have XOf : FnOk P w K mg base (L2.CX P w) 5 _ fd_Ratio_of ["cls", "number"] (spOfX K) := ok_ofX F_Ratio_of G (He.mkr_ok (Y.D.fact 57 (f := .mkr "Ratio") rfl)) XRI vI bI
    have OX : OfX P w K mg base := ⟨_, _, _, creadR Y, cmetB_ok (Y.chk 19 (b := cmetB K (He.ga K "Ratio") (.type "type") "of") rfl), toR XOf b_Ratio_of⟩
    have XNu : FnOk P w K mg base CX0 2 _ fd_is_number ["value"] (spNumX K) := ok_numX F_is_number G
    have XIc : FnOk P w K mg base CX0 3 _ fd_is_cut ["value"] (spIsCutX K) := ok_isCutX F_is_cut I F_is_number g_is_number b_is_number OIn
    have XRc : FnOk P w K mg base (L2.CX P w) 5 _ fd_ratio_cut ["cut"] (spRatioCutB K) := ok_ratioCutB F_ratio_cut I EMx g_is_cut D_is_cut.kp b_is_cut OIc XIc
    have DRc : DefX P w K mg base "ratio_cut" 5 ["cut"] (spRatioCutB K) := ⟨_, _, XRc, g_ratio_cut, b_ratio_cut, D_ratio_cut.kp⟩
    have XAh : FnOk P w K mg base (L2.CX P w) 7 _ fd_is_ahead ["one", "other"] (spAheadX K) := ok_aheadX F_is_ahead DRc ⟨_, _, OPr, g_precedes, b_precedes, D_precedes.kp⟩
    have XAn : FnOk P w K mg base (L2.CX P w) 6 _ fd_is_above ["number", "cut"] (spAboveN K) := ok_aboveN F_is_above T_ OX
    have XAc : FnOk P w K mg base (L2.CX P w) 6 _ fd_is_above ["number", "cut"] (spAboveC K) := ok_aboveC F_is_above J DRc
    have XIA : FnOk P w K mg base CX0 3 _ fd_is_cut ["value"] (spIsCutA K) := orFn OIc XIc
    have DIA : DefF P w K mg base "is_cut" 3 ["value"] (spIsCutA K) := ⟨_, _, XIA, g_is_cut, b_is_cut, D_is_cut.kp⟩
    have XSt : FnOk P w K mg base CX0 8 _ fd_is_stretch ["value"] (spStretchX K) := ok_stretchX F_is_stretch C DIA
    have DSt : DefF P w K mg base "is_stretch" 8 ["value"] (spStretchX K) := ⟨_, _, XSt, g_is_stretch, b_is_stretch, D_is_stretch.kp⟩
    have XWn : FnOk P w K mg base (L2.CX P w) 6 _ fd_is_within ["number", "stretch"] (spWithinN K) := ok_withinN F_is_within T_ OX
    have XWs : FnOk P w K mg base (L2.CX P w) 9 _ fd_is_within ["number", "stretch"] (spWithinS K) := ok_withinS F_is_within C EMx DSt
    have XMk : FnOk P w K mg base (L2.CX P w) 9 _ fd_mark_of ["stretch"] (spMarkX K) := ok_markX F_mark_of EMx DSt
    have XIn : FnOk P w K mg base (L2.CX P w) 8 _ fd_Range_is_inner ["self", "cut"] (spInnerX K) := ok_innerX F_Range_is_inner L ⟨_, _, XAh, g_is_ahead, b_is_ahead, D_is_ahead.kp⟩
    have XFi : FnOk P w K mg base (L2.CX P w) 9 _ fd_Range_fit ["self", "cut"] (spInnerX K) := ok_fitX F_Range_fit L (He.meth_ok (Y.D.fact 70 (f := .meth "Range" "is_inner") rfl)) b_Range_is_inner XIn
    have XHa : FnOk P w K mg base CX0 9 _ fd_Range_has_stretch ["self", "value"] (spHasX K) := ok_hasX F_Range_has_stretch DSt
    have XHo : FnOk P w K mg base CX0 6 _ fd_Range_contains ["self", "value"] (spHoldsX K) := ok_holdsX F_Range_contains L ⟨_, _, XNu, g_is_number, b_is_number, D_is_number.kp⟩
    have XGL : FnOk P w K mg base (L2.CX P w) 6 _ fd_Range_init ["self", "low", "high"] (spGInitL K) := ok_gInitL F_Range_init T_ OX
    have XGH : FnOk P w K mg base (L2.CX P w) 6 _ fd_Range_init ["self", "low", "high"] (spGInitH K) := ok_gInitH F_Range_init L OX
    have XGT : FnOk P w K mg base (L2.CX P w) 6 _ fd_Range_init ["self", "low", "high"] (spGInitT K) := ok_gInitT F_Range_init L EMx
    have Lrng : FnOk P w K mg base CX0 1 _ fd_lrng ["_law_script", "_law_spot"] (spRng K) := ok_rng F_lrng FR
    have Ldraw : FnOk P w K mg base CX0 1 _ fd_ldraw ["_law_rng_here", "_law_many"] spDraw := ok_draw F_ldraw FR
    have Lchoice : FnOk P w K mg base CX0 2 _ fd_lchoice ["_law_rng_here", "_law_some"] (spChoice K) := ok_choice F_lchoice FR F_ldraw g_ldraw b_ldraw
    have Lplain : FnOk P w K mg base CX0 1 _ fd_lplain ["_law_top", "_law_bottom"] (spPlain K) := ok_plain F_lplain FR
    have Da : DA P w K mg base := ⟨FR, ⟨_, _, Ldraw, g_ldraw, b_ldraw, D_ldraw.kp⟩, ⟨_, _, Lchoice, g_lchoice, b_lchoice, D_lchoice.kp⟩, ⟨_, _, Lplain, g_lplain, b_lplain, D_lplain.kp⟩⟩
    have Lsum : FnOk P w K mg base CX0 2 _ fd_lsum ["_law_near", "_law_far"] (spSum K) := ok_sum F_lsum Da
    have Lless : FnOk P w K mg base CX0 1 _ fd_lless ["_law_near", "_law_far"] (spLess K) := ok_less F_lless
    have Lfrac : FnOk P w K mg base CX0 3 _ fd_lfraction ["_law_rng_here"] (spFrac K) := ok_frac F_lfraction Da
    have Lreal : FnOk P w K mg base CX0 4 _ fd_lreal ["_law_rng_here", "_law_part"] (spReal K) := ok_real F_lreal Da G
    have Zi : IsF P w K mg base := ⟨L, Da, Y.S, ⟨_, _, _, propB_ok (Y.chk 15 (b := propB K (He.ga K "Ratio") "top") rfl), OTp, b_Ratio_top⟩, ⟨_, _, _, propB_ok (Y.chk 16 (b := propB K (He.ga K "Ratio") "bottom") rfl), OBt, b_Ratio_bottom⟩⟩
    have Lis : FnG P w K mg base CX0 3 _ fd_lis ["_law_made", "_law_part"] (spIs K) := ok_is F_lis Zi
    have Lahe : FnOk P w K mg base CX0 2 _ fd_lahead ["_law_near", "_law_far"] (spAheadL K) := ok_aheadL F_lahead ⟨_, _, Lless, g_lless, b_lless, D_lless.kp⟩
    have Labo : FnOk P w K mg base CX0 2 _ fd_labove ["_law_part", "_law_mark_here"] (spAboveL K) := ok_aboveL F_labove ⟨_, _, Lless, g_lless, b_lless, D_lless.kp⟩
    have Lhan : FnOk P w K mg base CX0 5 _ fd_lhanded ["_law_rng_here", "_law_mark_here"] (spHanded K) := ok_handed F_lhanded ⟨_, _, Lreal, g_lreal, b_lreal, D_lreal.kp⟩
    have Lisc : FnG P w K mg base CX0 4 _ fd_lis_cut ["_law_made", "_law_mark_here"] (spIsCutL K) := ok_isCutL F_lis_cut Zi ⟨_, _, Lis, g_lis, b_lis, D_lis.kp⟩
    have Lmar : FnOk P w K mg base CX0 3 _ fd_lmark ["_law_first", "_law_second"] (spMarkL K) := ok_markL F_lmark Da ⟨_, _, Lsum, g_lsum, b_lsum, D_lsum.kp⟩
    have Lp : LP P w K mg base := ⟨Zi, ZE, Rr, ⟨_, _, F_ltold, g_ltold, b_ltold⟩, ⟨_, _, Lreal, g_lreal, b_lreal, D_lreal.kp⟩, ⟨_, _, Lhan, g_lhanded, b_lhanded, D_lhanded.kp⟩, ⟨_, _, Lahe, g_lahead, b_lahead, D_lahead.kp⟩, ⟨_, _, Labo, g_labove, b_labove, D_labove.kp⟩, ⟨_, _, Lmar, g_lmark, b_lmark, D_lmark.kp⟩, ⟨_, _, Lis, g_lis, b_lis, D_lis.kp⟩, ⟨_, _, OSt, g_is_stretch, b_is_stretch, D_is_stretch.kp⟩, ⟨_, _, OWi, g_is_within, b_is_within, D_is_within.kp⟩, ⟨_, _, OMk, g_mark_of, b_mark_of, D_mark_of.kp⟩, ⟨_, _, XMk, g_mark_of, b_mark_of, D_mark_of.kp⟩⟩
    have TBP := TBs (codeAt K (He.ga K "_law_pair_right"), tabAt K (codeAt K (He.ga K "_law_pair_right"))) List.mem_cons_self
    have TBR := TBs (codeAt K (He.ga K "_law_refused_right"), tabAt K (codeAt K (He.ga K "_law_refused_right"))) (List.mem_cons_of_mem _ List.mem_cons_self)
    have nt : tabAt K (codeAt K (He.ga K "_law_pair_right")) ≠ tabAt K (codeAt K (He.ga K "_law_refused_right")) := by simpa using (Y.chk 41 (b := !(tabAt K (codeAt K (He.ga K "_law_pair_right")) == tabAt K (codeAt K (He.ga K "_law_refused_right")))) rfl)
    have Lpai : FnG P w K mg base CX0 12 _ fd_lpair_right ["_law_rng_here", "_law_near", "_law_far", "_law_parts"] (spPair K (tabAt K (codeAt K (He.ga K "_law_pair_right"))) (tabAt K (codeAt K (He.ga K "_law_refused_right")))) := ok_pair F_lpair_right hcP TBP nt Lp
    have Lw : LW P w K mg base := ⟨Lp, ⟨_, _, (He.mkr_ok (Y.D.fact 61 (f := .mkr "Range") rfl)), OGI, b_Range_init⟩, ⟨_, _, (He.meth_ok (Y.D.fact 70 (f := .meth "Range" "is_inner") rfl)), OInn, b_Range_is_inner⟩, ⟨_, _, (He.meth_ok (Y.D.fact 71 (f := .meth "Range" "fit") rfl)), OFit, b_Range_fit⟩, ⟨_, _, Lsum, g_lsum, b_lsum, D_lsum.kp⟩, ⟨_, _, Lisc, g_lis_cut, b_lis_cut, D_lis_cut.kp⟩⟩
    have Lwid : FnG P w K mg base CX0 10 _ fd_lwider_right ["_law_rng_here", "_law_made", "_law_low", "_law_high", "_law_marks"] (spWider K) := ok_wider F_lwider_right Lw
    have Lg : LG P w K mg base := ⟨Lw, ⟨_, _, _, propB_ok (Y.chk 17 (b := propB K (He.ga K "Range") "low") rfl), OGl, b_Range_low⟩, ⟨_, _, _, propB_ok (Y.chk 18 (b := propB K (He.ga K "Range") "high") rfl), OGh, b_Range_high⟩, ⟨_, _, (He.meth_ok (Y.D.fact 69 (f := .meth "Range" "outer") rfl)), OOR, b_Range_outer⟩, ⟨_, _, (He.meth_ok (Y.D.fact 72 (f := .meth "Range" "has_stretch") rfl)), OHas, b_Range_has_stretch⟩, ⟨_, (He.meth_ok (Y.D.fact 73 (f := .meth "Range" "__contains__") rfl)), toR OHol b_Range_contains⟩, ⟨_, ⟨(He.meth_ok (Y.D.fact 74 (f := .meth "Range" "__eq__") rfl)), (He.eqO_ok (Y.chk 7 (b := He.eqO (PySem.W.findIn K (.ref (He.ga K "Range")) "__ne__") (some (some (.builtin "object.__ne__")))) rfl)), (of_decide_eq_true (Y.chk 6 (b := decide (PySem.W.mroIn K (He.ga K "Range") (.type "object") = some true)) rfl))⟩, toR OGE b_Range_eq⟩, ⟨_, (He.meth_ok (Y.D.fact 75 (f := .meth "Range" "__repr__") rfl)), toR OGR b_Range_repr⟩, ⟨(of_decide_eq_true (Y.chk 42 (b := decide (PySem.W.notFirst K (He.ga K "Range") (.type "tuple") = true)) rfl)), (of_decide_eq_true (Y.chk 43 (b := decide (PySem.W.kitOne K (.type "tuple") (.ref (He.ga K "Range")) = some false)) rfl))⟩, ⟨_, _, Lless, g_lless, b_lless, D_lless.kp⟩, ⟨_, _, Lwid, g_lwider_right, b_lwider_right, D_lwider_right.kp⟩⟩
    have Lran : FnG P w K mg base CX0 11 _ fd_lrange_right ["_law_rng_here", "_law_low", "_law_high", "_law_marks", "_law_parts"] (spRangeR K) := ok_range F_lrange_right Lg
    have Ly : LY P w K mg base := ⟨Lw, NN, ⟨_, _, XAc, g_is_above, b_is_above, D_is_above.kp⟩, ⟨_, _, XAn, g_is_above, b_is_above, D_is_above.kp⟩, ⟨_, _, XAh, g_is_ahead, b_is_ahead, D_is_ahead.kp⟩, ⟨_, _, XMk, g_mark_of, b_mark_of, D_mark_of.kp⟩, ⟨_, _, XWs, g_is_within, b_is_within, D_is_within.kp⟩, ⟨_, _, XWn, g_is_within, b_is_within, D_is_within.kp⟩, DIA, DSt, ⟨_, _, (He.meth_ok (Y.D.fact 70 (f := .meth "Range" "is_inner") rfl)), XIn, b_Range_is_inner⟩, ⟨_, _, (He.meth_ok (Y.D.fact 71 (f := .meth "Range" "fit") rfl)), XFi, b_Range_fit⟩, ⟨_, _, (He.meth_ok (Y.D.fact 72 (f := .meth "Range" "has_stretch") rfl)), XHa, b_Range_has_stretch⟩, ⟨_, (He.meth_ok (Y.D.fact 73 (f := .meth "Range" "__contains__") rfl)), toR XHo b_Range_contains⟩, ⟨_, _, (He.mkr_ok (Y.D.fact 61 (f := .mkr "Range") rfl)), OGI, XGL, XGH, XGT, b_Range_init⟩, ⟨_, _, Lchoice, g_lchoice, b_lchoice, D_lchoice.kp⟩⟩
    have Lref : FnG P w K mg base CX0 12 _ fd_lrefused_right ["_law_rng_here", "_law_low", "_law_high"] (spRefused K (tabAt K (codeAt K (He.ga K "_law_pair_right"))) (tabAt K (codeAt K (He.ga K "_law_refused_right")))) := ok_refused F_lrefused_right hcR TBR nt Ly
    have Lz : LZ P w K mg base (tabAt K (codeAt K (He.ga K "_law_pair_right"))) (tabAt K (codeAt K (He.ga K "_law_refused_right"))) := ⟨Ly, FR, ⟨_, _, Lfrac, g_lfraction, b_lfraction, D_lfraction.kp⟩, ⟨_, _, OIc, g_is_cut, b_is_cut, D_is_cut.kp⟩, ⟨_, _, Lless, g_lless, b_lless, D_lless.kp⟩, ⟨_, _, Lpai, g_lpair_right, b_lpair_right, D_lpair_right.kp⟩, ⟨_, _, Lran, g_lrange_right, b_lrange_right, D_lrange_right.kp⟩, ⟨_, _, Lref, g_lrefused_right, b_lrefused_right, D_lrefused_right.kp⟩⟩
    have Lri : FnG P w K mg base CX0 13 _ fd_lright ["_law_rng_here"] (spRight K (tabAt K (codeAt K (He.ga K "_law_pair_right"))) (tabAt K (codeAt K (He.ga K "_law_refused_right")))) := ok_right F_lright Lz
    exact ok_law F_law FR ⟨_, _, Lrng, g_lrng, b_lrng, D_lrng.kp⟩ ⟨_, _, Lri, g_lright, b_lright, D_lright.kp⟩
end K18
set_option maxHeartbeats 4000000
/-! The end of a law whose promise asks the units' guards and a table of lambdas. -/
namespace GL
open PySem PySem.Spec PyProof.Rows L2
theorem law_callT2 {P : Program} {w : World} {K : PySem.W.Frag} {mg mb : Str → Option Value} {k : Nat} {fa a : Addr} {L : List (Addr × Addr)} {fd : FuncData} {x : Str} {sp : Sp} {s₁ : Shared} {vs : List Value} {ns : List Int}
    (KX : K.In s₁.heap) (hns : s₁.heap.Ns mainGlobals mg) (hb : s₁.heap.Ns builtinsNs mb) (hbb : ∀ x : Str, x ≠ "__name__" → mb x = bootBuiltins x) (hlim : s₁.heap.NoLimit) (hg : s₁.gens = #[])
    (tab : ∀ tb ∈ L.map Prod.snd, s₁.heap.get? tb = some { cls := .none, data := .fields #[] }) (noK : ∀ tb ∈ L.map Prod.snd, K.lookup tb = none) (code : ∀ x ∈ L, PySem.W.CodeHd s₁.heap x.1 x.2)
    (hbm : ∃ (bm : Addr) (ob : Obj), mg "__builtins__" = some (.ref bm) ∧ bm ≠ builtinsNs ∧ s₁.heap.get? bm = some ob ∧ ob.cls = .type "module" ∧ ob.dict = some builtinsNs ∧ ob.data = .plain)
    (ha : s₁.heap.get? a = some { cls := .type "list", data := .seq vs.toArray }) (hi : IntsAre vs ns) (hl : ns.length ≤ sizeLine) (hr : Room k callerA)
    (F : ∀ base : Heap, K.In base → base.Ns mainGlobals mg → (∀ x ∈ L, LamX.TabB base mg x.1 x.2) → FnG P w K mg base CX0 k fa fd [x] sp) (hbind : ∀ (s : Shared) (u : Value), BindsTo s fd ⟨[u], []⟩ [(x, u)])
    (hsp : ∀ H : Hp, (∀ tb ∈ L.map Prod.snd, H tb = some (.tbl #[])) → SqL K H a (ns.map V.int) → sp [.ref a] H (fun v _ => v = .bl true) E0) :
    codeAny (model P w) callerA (.call (.ref fa) ⟨[.ref a], []⟩) (fun r s' => r = .ok (.ret (.bool true)) ∧ OldK s₁.heap s'.heap ∧ s'.os = s₁.os ∧ AllBare s'.gens) s₁ := by
  have rv := vals_ints hi
  have atb : a ∉ L.map Prod.snd := fun z => by
    rw [tab _ z] at ha
    cases ha
  have main : ∀ H : Hp, (∀ tb ∈ L.map Prod.snd, H tb = some (.tbl #[])) → (∀ b u, b ∉ L.map Prod.snd → H b = some u → b = a ∧ K.lookup a = none ∧ ∃ o xs, u = .frz o (.lst xs)) → SqL K H a (ns.map V.int) → HOk P w H s₁.heap →
      codeAny (model P w) callerA (.call (.ref fa) ⟨[.ref a], []⟩) (fun r s' => r = .ok (.ret (.bool true)) ∧ OldK s₁.heap s'.heap ∧ s'.os = s₁.os ∧ AllBare s'.gens) s₁ := by
    intro H ht ours sq hok
    have stays : ∀ {b : Addr} {o : Obj}, s₁.heap.get? b = some o → H b = none → (hidT s₁.heap H).get? b = some o := fun e n => hidT_get e n
    -- what is neither the script nor the table isn't tracked
    have free : ∀ {b : Addr} {o : Obj}, s₁.heap.get? b = some o → (∀ us n, o.data ≠ .seq us n) → o.data ≠ .fields #[] → H b = none := by
      intro b o e n1 n2
      cases q : H b with
      | none => rfl
      | some u =>
        by_cases hb : b ∈ L.map Prod.snd
        · rw [tab _ hb] at e
          cases e
          exact absurd rfl n2
        · cases (ours b u hb q).1
          rw [ha] at e
          cases e
          exact absurd rfl (n1 _ _)
    have spaces : ∀ {b : Addr} {m : Str → Option Value}, s₁.heap.Ns b m → (hidT s₁.heap H).Ns b m := fun {b m} ⟨o, es, ep, e, d, r⟩ => ⟨o, es, ep, stays e (free e (fun us n z => by rw [d] at z; cases z) fun z => by rw [d] at z; cases z), d, r⟩
    have kin : K.In (hidT s₁.heap H) := by
      intro b o e
      refine stays (KX b o e) ?_
      cases q : H b with
      | none => rfl
      | some u =>
        by_cases hb : b ∈ L.map Prod.snd
        · rw [noK _ hb] at e
          cases e
        · obtain ⟨rfl, z, _⟩ := ours b u hb q
          rw [z] at e
          cases e
    have md : Mod K mg (hidT s₁.heap H) := ⟨kin, spaces hns, ⟨mb, spaces hb, hbb⟩, let ⟨mc, h1, h2⟩ := hlim; ⟨mc, spaces h1, h2⟩⟩
    have TB : ∀ x ∈ L, LamX.TabB (hidT s₁.heap H) mg x.1 x.2 := by
      intro x hx
      have hx2 : x.2 ∈ L.map Prod.snd := List.mem_map.mpr ⟨x, hx, rfl⟩
      refine ⟨?_, ?_, fun z => ?_⟩
      · obtain ⟨o, us, file, tf, flags, tg, inF, text, tt, e1, r1, r2, r3, r⟩ := code x hx
        refine ⟨o, us, file, tf, flags, tg, inF, text, tt, stays e1 (free e1 (fun us n z => by rw [r2] at z; cases z) fun z => ?_), r1, r2, r3, r⟩
        rw [r2] at z
        cases z
        simp at r3
      · obtain ⟨bm, ob, b1, b2, b3, b4, b5, b6⟩ := hbm
        have n1 : bm ≠ mainGlobals := fun q => by
          obtain ⟨o, es, ep, e, d, _⟩ := hns
          rw [q, e] at b3
          cases b3
          rw [d] at b6
          cases b6
        have n2 : bm ≠ x.2 := fun q => by
          rw [q, tab _ hx2] at b3
          cases b3
          cases b6
        exact ⟨bm, ob, b1, b2, n1, n2, stays b3 (free b3 (fun us n z => by rw [b6] at z; cases z) fun z => by rw [b6] at z; cases z), b4, b5, b6⟩
      · obtain ⟨o, es, ep, e, d, _⟩ := hns
        rw [z, tab _ hx2] at e
        cases e
        cases d
    have nofr : ∀ b ∈ frs ([] : List Env), H b = none := fun b z => nomatch z
    have e0 : Env0 P w K mg (hidT s₁.heap H) callerA [] s₁ H := ⟨rfl, md, fun b o e => of_hidT e, Nat.le_of_eq (hidT_size _ _), trivial, nofr, hok, .of_eq hg⟩
    refine codeAny_mono ((F _ kin (spaces hns) TB).go callerA [] s₁ H ⟨[.ref a], []⟩ [.ref a] [.ref a] _ _ rfl hr e0 (hbind s₁ (.ref a)) (.cons rfl .nil) (hsp H ht sq)) ?_
    intro r s' h
    match r, h with
    | .error e, h => exact False.elim h
    | .ok .next, h => exact False.elim h
    | .ok .brk, h => exact False.elim h
    | .ok .cont, h => exact False.elim h
    | .ok (.ret u), h =>
      obtain ⟨v, H', os, bare, un, hok', r', rfl⟩ := h
      cases (show u = Value.bool true from r')
      have other : ∀ b o, b ∉ L.map Prod.snd → s₁.heap.get? b = some o → s'.heap.get? b = some o := by
        intro b o hb e
        cases q : H b with
        | none => exact un.keep b o e q (fun z => nomatch z) (fun z => nomatch z)
        | some u =>
          obtain ⟨_, _, ob, xs, rfl⟩ := ours b u hb q
          have e1 := (hok b _ q).1
          have e2 := (hok' b _ (un.frzs b ob _ q)).1
          rw [e] at e1
          cases e1
          exact e2
      have grow : ∀ tb ∈ L.map Prod.snd, ∃ more : Array Value, s'.heap.get? tb = some { cls := .none, data := .fields more } := fun tb htb => by
        obtain ⟨more, grown⟩ := un.tbls tb #[] (ht tb htb)
        have grown : s'.heap.get? tb = some { cls := .none, data := .fields (#[] ++ more) } := hok' tb _ grown
        rw [Array.empty_append] at grown
        exact ⟨more, grown⟩
      refine ⟨rfl, ⟨fun b o e => ?_, fun b o e => ?_⟩, os, bare⟩
      · by_cases hb : b ∈ L.map Prod.snd
        · rw [tab _ hb] at e
          cases e
          obtain ⟨more, grown⟩ := grow b hb
          obtain ⟨x, hx, ex⟩ := List.mem_map.mp hb
          have tx := tab _ hb
          rw [← ex] at tx
          have it := ((code x hx).tab tx).isCodeTable
          rw [ex] at it
          exact .inr (.inl ⟨it, rfl, #[], more, rfl, by rw [Array.empty_append]; exact grown⟩)
        · exact .inl (other b o hb e)
      · by_cases hb : b ∈ L.map Prod.snd
        · obtain ⟨more, grown⟩ := grow b hb
          exact ⟨_, grown⟩
        · exact ⟨o, other b o hb e⟩
  cases hk : K.lookup a with
  | some o =>
    have e := KX a o hk
    rw [ha] at e
    cases e
    refine main (fun b => if b ∈ L.map Prod.snd then some (.tbl #[]) else none) (fun _ hb => if_pos hb) (fun b u hb z => ?_) (.inr ⟨_, vs.toArray, _, hk, rfl, rfl, rfl, ?_, by simpa using rv⟩) fun b u z => ?_
    · rw [if_neg hb] at z
      cases z
    · rw [List.size_toArray, hi.length]
      exact hl
    · by_cases hb : b ∈ L.map Prod.snd
      · have z' := (if_pos hb).symm.trans z
        cases z'
        exact tab _ hb
      · have z' := (if_neg hb).symm.trans z
        cases z'
  | none =>
    refine main (fun b => if b ∈ L.map Prod.snd then some (.tbl #[]) else if b = a then some (HO.frz { cls := .type "list", data := .seq vs.toArray } (.lst (ns.map V.int))) else none) (fun _ hb => if_pos hb) (fun b u hb z => ?_) (.inl (.inr ⟨{ cls := .type "list", data := .seq vs.toArray }, ?_⟩)) fun b u z => ?_
    · have z1 := (if_neg hb).symm.trans z
      by_cases h : b = a
      · have z2 := (if_pos h).symm.trans z1
        exact ⟨h, hk, _, _, (Option.some.inj z2).symm⟩
      · have z2 := (if_neg h).symm.trans z1
        cases z2
    · exact (if_neg atb).trans (if_pos rfl)
    · by_cases hb : b ∈ L.map Prod.snd
      · have z' := (if_pos hb).symm.trans z
        cases z'
        exact tab _ hb
      · have z1 := (if_neg hb).symm.trans z
        by_cases h : b = a
        · have z2 := (if_pos h).symm.trans z1
          cases z2
          rw [h]
          exact ⟨ha, by rw [List.length_map]; exact hl, vs, _, rv, ha⟩
        · have z2 := (if_neg h).symm.trans z1
          cases z2
theorem walk_T2 {l : PySem.W.OpenLaw} {n k : Nat} {q : Program} {loose : List Str} {XP : (Str → Option Value) → Heap → Prop} {YP : World → Heap → Prop} {d : DefRec} {x : Str}
    (hn : l.most = some n) (hn2 : n ≤ sizeLine) (hdf : d.params.defaults = []) (hr : Room k callerA)
    (F : ∀ (w : World) (mg : Str → Option Value) (fa : Addr) (h : Heap), YP w h → h.Ns mainGlobals mg → mg d.name = some (.ref fa) →
      ∃ (K : PySem.W.Frag) (L : List (Addr × Addr)) (fd : FuncData) (sp : Sp), K.In h ∧ (∀ tb ∈ L.map Prod.snd, h.get? tb = some { cls := .none, data := .fields #[] }) ∧ (∀ tb ∈ L.map Prod.snd, K.lookup tb = none) ∧ (∀ x ∈ L, PySem.W.CodeHd h x.1 x.2) ∧ (∀ (s : Shared) (u : Value), BindsTo s fd ⟨[u], []⟩ [(x, u)]) ∧
        (∀ (H : Hp) (a : Addr) (ns : List Int), ns.length ≤ n → (∀ tb ∈ L.map Prod.snd, H tb = some (.tbl #[])) → SqL K H a (ns.map V.int) → sp [.ref a] H (fun v _ => v = .bl true) E0) ∧
        ∀ base : Heap, K.In base → base.Ns mainGlobals mg → (∀ x ∈ L, LamX.TabB base mg x.1 x.2) → FnG l.prog w K mg base CX0 k fa fd [x] sp) :
    PySem.W.WalkO q loose XP YP l.row.toRowW d [] (fun f vs => PySem.call f vs) := by
  apply Att.attach_callB hn hdf
  intro w s₀ s₁ mg mb fa o pm cd doc a vs ns G Y ho hd hcd hmg hobj hints hlen hbits hg
  obtain ⟨K, L, fd, sp, KX, t1, t2, t3, hb, hsp, hF⟩ := F w mg fa _ Y G.T.g hmg
  exact law_callT2 KX G.T.g G.T.b G.T.builtins G.T.nolimit hg t1 t2 t3 G.T.bmain hobj hints (Nat.le_trans hlen hn2) hr hF hb fun H ht sq => hsp H a ns hlen ht sq
end GL
set_option maxHeartbeats 0
open PySem PySem.W PySem.Calls PyProof.Rows
theorem PySem.Challenge.cw_fademodes_k11_cuts_and_ranges_holds : PySem.Challenge.rw_fademodes_k11_cuts_and_ranges.Holds := by
  w_on; o_law
  refine HandSHeadRun.head_imp (r := OpenLaw.row PySem.Challenge.rw_fademodes_k11_cuts_and_ranges) (q := view (OpenLaw.row PySem.Challenge.rw_fademodes_k11_cuts_and_ranges).prog [0, 47]) (H := K18.hk) (ob := K18.ob) (M := 20000) (loose := K18.loose) (d := HandSHeadRun.topDef (OpenLaw.row PySem.Challenge.rw_fademodes_k11_cuts_and_ranges).prog 47) (kwd := []) K18.ob_eq
    K18.run (by kernel_rfl) (by kernel_rfl) (by kernel_rfl) (by rfl) (by first | assumption | decide +kernel) (by decide +kernel) ⟨rfl, rfl, rfl, rfl, rfl, by decide +kernel⟩ ?hw ?hc
  case hw => w_witness2
  case hc =>
    refine GL.walk_T2 (l := PySem.Challenge.rw_fademodes_k11_cuts_and_ranges) (n := 63) (k := 14) (x := "_law_script") rfl (by decide) (by kernel_rfl) ⟨rfl, by decide, by decide⟩ ?F
    intro w mg fa h Y G hmg0
    obtain ⟨K, T, KX, TX, c, cx, b, tb⟩ := Y
    have hmg : mg ("law" : PySem.Str) = some (.ref fa) := by
      have e : (HandSHeadRun.topDef (OpenLaw.row PySem.Challenge.rw_fademodes_k11_cuts_and_ranges).prog 47).name = ("law" : PySem.Str) := by kernel_rfl
      rw [← e]
      exact hmg0
    obtain ⟨b1, b2⟩ := He.ba b
    have one : ∀ f ∈ K18.lamF K, PySem.W.CodeHd h (GL.codeAt K f) (GL.tabAt K (GL.codeAt K f)) ∧ K.lookup (GL.tabAt K (GL.codeAt K f)) = none ∧ h.get? (GL.tabAt K (GL.codeAt K f)) = some { cls := .none, data := .fields #[] } := by
      intro f hf
      obtain ⟨t1, t2⟩ := He.ba (List.all_eq_true.mp tb f hf)
      obtain ⟨c1, c2, _⟩ := GL.codeB_ok KX t1
      refine ⟨c1, c2, ?_⟩
      split at t2
      · rename_i o e
        rw [GL.isTab_eq t2] at e
        exact TX _ _ e
      · cases t2
    have tabs : ∀ {y : PySem.Addr}, y ∈ ((K18.lamF K).map (fun f => (GL.codeAt K f, GL.tabAt K (GL.codeAt K f)))).map Prod.snd → ∃ f ∈ K18.lamF K, y = GL.tabAt K (GL.codeAt K f) := by
      intro y hy
      obtain ⟨x, hx, rfl⟩ := List.mem_map.mp hy
      obtain ⟨f, hf, rfl⟩ := List.mem_map.mp hx
      exact ⟨f, hf, rfl⟩
    obtain ⟨fd, hb, hF⟩ := K18.facts (P := (PySem.Challenge.rw_fademodes_k11_cuts_and_ranges).prog) (w := w) ⟨KX, TX, G, c, cx, GL.sysB_ok b1, b2, tb⟩ hmg
    refine ⟨K, (K18.lamF K).map (fun f => (GL.codeAt K f, GL.tabAt K (GL.codeAt K f))), fd, K18.spLaw K (GL.tabAt K (GL.codeAt K (He.ga K "_law_pair_right"))) (GL.tabAt K (GL.codeAt K (He.ga K "_law_refused_right"))), KX, ?_, ?_, ?_, hb, ?_, hF⟩
    · intro y hy
      obtain ⟨f, hf, rfl⟩ := tabs hy
      exact (one f hf).2.2
    · intro y hy
      obtain ⟨f, hf, rfl⟩ := tabs hy
      exact (one f hf).2.1
    · intro x hx
      obtain ⟨f, hf, rfl⟩ := List.mem_map.mp hx
      exact (one f hf).1
    · intro H a ns hl ht hS
      refine ⟨a, ns, rfl, hS, hl, fun x hx => ?_, fun _ => rfl⟩
      simp only [List.mem_cons, List.not_mem_nil, or_false] at hx
      rcases hx with rfl | rfl
      · exact LamX.TabS.nil (ht _ (List.mem_map.mpr ⟨_, List.mem_map.mpr ⟨_, List.mem_cons_self, rfl⟩, rfl⟩))
      · exact LamX.TabS.nil (ht _ (List.mem_map.mpr ⟨_, List.mem_map.mpr ⟨_, List.mem_cons_of_mem _ List.mem_cons_self, rfl⟩, rfl⟩))
