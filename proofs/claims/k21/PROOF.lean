import PyProof.Rows.All
import Wide.All
import OpenK.AllK
import Wide.FinOn
import PyProof.EqAt
import PyProof.EqKinds
import PyProof.TupleCall
import HandS.ForMost
import HandS.ExcInit
import HandS.IsInst
import HandS.Wide
import HandS.WideBits
import HandS.ExcValue
import KE.KExcIs
import KE.KExcInit
import HandS.Defaults
import HandS.HeadHook2
import HandS.HeadEnd
import HandS.Head2
import HandS.Conv
import KE.KOpsOwn
import HandS.OwnEq
import HandS.Property
import HandS.ClsMeth
import HandS.Gcd
import HandS.MakeKw
import HandS.Star
import HandS.MethStar
import PyProof.InstNe
import HandS.Flow
import HandS.Head3
import HandS.TryMany
import HandS.ExcOwn
import HandS.Lambda
import HandS.Walk
import HandS.FStr
import KE.KAssignIn
import HandS.EndTab
import HandS.Iter
import HandS.AnyAll
import KE.GoesEnum
import HandS.More
import HandS.ExcCtx
import HandS.Small
import HandS.WordsExc
import HandS.DictComp
import HandS.MakeKwOnly
import KE.KParD
import KE.KRevSl
import HandS.Comp
import HandS.NoneIn
import HandS.Dict
import KE.KDictDisplayH
import PySem.Challenge.RW_fademodes_k21_rules_refused
set_option Elab.async false
set_option linter.all false
set_option maxRecDepth 100000
set_option maxHeartbeats 4000000
namespace GL
open PySem PySem.Spec PyProof.Rows L2

/-! ### promises that hold where no container is being shown -/
structure FnG (P : Program) (w : World) (K : PySem.W.Frag) (mg : Str → Option Value) (base : Heap) (CX : CXT) (k : Nat) (f : Addr) (fd : FuncData) (ps : List Str) (sp : Sp) : Prop where
  many : ∀ vs H Q E, sp vs H Q E → vs.length = ps.length
  go : ∀ (A : Around) (outer : List Env) (s : Shared) (H : Hp) (args : Args) (us : List Value) (vs : List V) (Q : VK) (E : XK), A.guards = some [] → Room k A →
    Env0 P w K mg base A outer s H → BindsTo s fd args (ps.zip us) → Vals vs us → sp vs H Q E → codeAny (model P w) A (.call (.ref f) args) (CR CX outer P w H s Q E) s
theorem FnG.of {P : Program} {w : World} {K : PySem.W.Frag} {mg : Str → Option Value} {base : Heap} {CX : CXT} {k : Nat} {f : Addr} {fd : FuncData} {ps : List Str} {sp : Sp} (F : FnOk P w K mg base CX k f fd ps sp) : FnG P w K mg base CX k f fd ps sp :=
  ⟨F.len, fun A outer s H args us vs Q E _ => F.run A outer s H args us vs Q E⟩

section
variable {P : Program} {w : World} {K : PySem.W.Frag} {mg : Str → Option Value} {base : Heap} {CX : CXT}
theorem FnG.ofBody {k : Nat} {f : Addr} {name qual : Str} {params : Arguments} {body : List Stmt} {scope : Scope} {dV kV doc pm cdv ct oc : Value} {an od : Option Addr} {osl : Array (Option Value)} {N ps : List Str} {sp : Sp}
    (lk : K.lookup f = some ⟨oc, od, .func (PySem.W.fnOf name qual params body scope dV kV doc pm an cdv ct), osl⟩) (hcd : PySem.W.codeIn K cdv qual = true) (S : FnScope N ps scope) (many : ∀ vs H Q E, sp vs H Q E → vs.length = ps.length)
    (hbody : ∀ (A : Around) (outer : List Env) (s : Shared) (H : Hp) (vs : List V) (Q : VK) (E : XK), A.guards = some [] → Room k (A.deeper (envOfC qual scope s.heap.objs.size f cdv)) → sp vs H Q E →
      ∃ t, PSs (cxOf CX P w K mg base N qual scope f cdv A outer s H E) body t ∧ t { nx := fun _ H' => Q .non H', rt := Q } (start N vs) H) :
    FnG P w K mg base CX (k + 1) f (PySem.W.fnOf name qual params body scope dV kV doc pm an cdv ct) ps sp := by
  constructor
  · exact many
  intro A outer s H args us vs Q E gd hr e0 hb rv hsp
  have sameLen := many _ _ _ _ hsp
  have inS : K.In s.heap := e0.mod.kin.keeps fun b o e => (e0.bs b o e).1
  have noLim : s.heap.NoLimit := e0.mod.nolimit.keeps fun b o e => (e0.bs b o e).1
  have kinds : ∀ y ∈ ps.zip us, scope.names.lookup y.1 = some .local ∨ (scope.names.lookup y.1 = some .cell ∧ ((cellsFrom (s.heap.objs.size + 1) scope.names []).lookup y.1).isSome = true) := by
    intro y hy
    have hm := (List.of_mem_zip (a := y.1) (b := y.2) hy).1
    exact (S.par y.1 hm).imp id fun q => ⟨q, PySem.W.cellsFrom_some _ _ _ (.inl q)⟩
  apply codeAny_call_function hr.depth (inS _ _ lk) rfl S.co S.gen rfl (PySem.W.codeRec_of inS hcd)
  apply hb
  apply wpAny_newFunctionEnv_cells S.kind kinds
  intro env he s1 entered
  cases he
  refine ⟨noLim.keeps entered.toInCall.keep, codeAny_func ?_⟩
  obtain ⟨t, tOk, tRun⟩ := hbody A outer s H vs Q E gd (hr.deeper _) hsp
  have atStart : Inv (cxOf CX P w K mg base N qual scope f cdv A outer s H E) [] (start N vs) H s1 := inv_start S hr.hd e0 sameLen rv entered
  refine wpAny_mono (tOk.run [] s1 (start N vs) H _ atStart tRun) (fun fl s' hs => ?_) fun e s' hs => hs
  match fl, hs with
  | .ret u, hs =>
    obtain ⟨v, σ', H', J, r, q⟩ := hs
    exact ⟨v, H', J.os, J.bare, J.base, J.hok, r, q⟩
  | .next, hs =>
    obtain ⟨σ', H', J, q⟩ := hs
    exact ⟨V.non, H', J.os, J.bare, J.base, J.hok, rfl, q⟩
  | .brk, hs =>
    obtain ⟨_, _, _, q⟩ := hs
    exact False.elim q
  | .cont, hs =>
    obtain ⟨_, _, _, q⟩ := hs
    exact False.elim q
end

section
variable {X : Cx} {CX : CXT} {k : Nat} {f : Addr} {fd : FuncData} {ps : List Str} {sp : Sp} {dvs : List V} {ds : List Value} {E : XK} {x : Str} {p pos : Pos} {e : Expr} {es : List Expr} {t : TA}
theorem FnG.call {pins : List (Addr × Obj)} {σ : L2.St} {H : Hp} {s : Shared} {Q : VK} {us : List Value} {vs : List V} (F : FnG X.prog X.w X.K X.mg X.base CX k f fd ps sp) (gd : X.A.guards = some []) (hr : Room k X.A) (hb : Binds X.K fd ps ds) (hd : Vals dvs ds)
    (hx : Passes CX X E) (I : Inv X pins σ H s) (r : Vals vs us) (h : sp (vs ++ dvs) H Q E) : wpAny (model X.prog X.w) X.A (PySem.call (.ref f) us) (EP X pins σ Q) X.xe s := by
  have all := r.append hd
  have hl : (us ++ ds).length = ps.length := all.length.symm.trans (F.many _ _ _ _ h)
  apply wpAny_call
  refine codeAny_mono (F.go X.A X.stack s H ⟨us, []⟩ (us ++ ds) (vs ++ dvs) Q E gd hr I.env0 (hb s us I.kIn hl) all h) ?_
  intro r' s' hq
  match r', hq with
  | .error er, hq => exact hx pins σ H s er s' I hq
  | .ok (.ret u), hq => exact I.after hq
  | .ok .next, hq => exact False.elim hq
  | .ok .brk, hq => exact False.elim hq
  | .ok .cont, hq => exact False.elim hq
/-- f(e, ..), f one of these defs -/
theorem pe_callG (F : FnG X.prog X.w X.K X.mg X.base CX k f fd ps sp) (gd : X.A.guards = some []) (hr : Room k X.A) (hg : Gl X x) (hm : X.mg x = some (.ref f)) (hk : PySem.W.keepIn X.K (.ref f) = true) (hb : Binds X.K fd ps ds) (hd : Vals dvs ds) (hx : Passes CX X E)
    (ha : PA X (e :: es) t) (hdb : (x == ("__debug__" : Str)) = false := by decide) (he : starEach (e :: es) X.env = (false, eval e X.env) :: starEach es X.env := by rfl) (hpl : (backTo pos (starEach es X.env)).any (·.1) = false := by rfl) :
    PE X (.Call (.Name x p) (e :: es) [] pos) (tCall sp dvs E t) := by
  constructor
  intro pins s σ H Q I h
  apply wpAny_Call_Name_kw
  refine ld_glob I hg hm ?_ hdb
  refine PySem.W.callWith_K (h₀ := X.base) I.ok.mod.kin hk (thn (ha.run pos pins s σ H _ I h) ?_) he hpl
  rintro us s1 ⟨vs, H1, I1, r, q⟩
  exact ⟨I1.kIn, F.call gd hr hb hd hx I1 r q⟩
theorem pe_callG0 (F : FnG X.prog X.w X.K X.mg X.base CX k f fd ps sp) (gd : X.A.guards = some []) (hr : Room k X.A) (hg : Gl X x) (hm : X.mg x = some (.ref f)) (hk : PySem.W.keepIn X.K (.ref f) = true) (hb : Binds X.K fd ps ds) (hd : Vals dvs ds) (hx : Passes CX X E)
    (hdb : (x == ("__debug__" : Str)) = false := by decide) : PE X (.Call (.Name x p) [] [] pos) (tCall sp dvs E tNil) := by
  constructor
  intro pins s σ H Q I h
  apply wpAny_Call_Name_kw
  refine ld_glob I hg hm ?_ hdb
  exact PySem.W.callWith_K0 I.kIn hk (F.call (us := []) gd hr hb hd hx I .nil h)
end

section
variable {P : Program} {w : World} {K : PySem.W.Frag} {mg : Str → Option Value} {base : Heap}
theorem Fun.okG {x qual : Str} {st : Stmt} {f : Addr} {fd : FuncData} {N ps : List Str} {k : Nat} {sp : Sp} (F : L2.Fun K x qual st f fd) (S : FnScope N ps (defScope st)) (many : ∀ vs H Q E, sp vs H Q E → vs.length = ps.length)
    (hbody : ∀ (cdv : Value) (A : Around) (outer : List Env) (s : Shared) (H : Hp) (vs : List V) (Q : VK) (E : XK), A.guards = some [] → Room k (A.deeper (envOfC qual (defScope st) s.heap.objs.size f cdv)) → sp vs H Q E →
      ∃ t, PSs (cxOf CX0 P w K mg base N qual (defScope st) f cdv A outer s H E).nox (defBody st) t ∧ t { nx := fun _ H' => Q .non H', rt := Q } (start N vs) H) : FnG P w K mg base CX0 (k + 1) f fd ps sp := by
  obtain ⟨oc, od, kV, doc, pm, an, cdv, ct, osl, rfl, lk, hcd⟩ := F.ex
  refine FnG.ofBody lk hcd S many ?_
  intro A outer s H vs Q E gd hr hsp
  obtain ⟨t, h, q⟩ := hbody cdv A outer s H vs Q E gd hr hsp
  exact ⟨t, h.nox, q⟩
end

/-! ### the law's call -/
theorem law_callG {P : Program} {w : World} {K : PySem.W.Frag} {mg mb : Str → Option Value} {k : Nat} {fa a : Addr} {fd : FuncData} {x : Str} {sp : Sp} {s₁ : Shared} {vs : List Value} {ns : List Int}
    (KX : K.In s₁.heap) (hns : s₁.heap.Ns mainGlobals mg) (hb : s₁.heap.Ns builtinsNs mb) (hbb : ∀ x : Str, x ≠ "__name__" → mb x = bootBuiltins x) (hlim : s₁.heap.NoLimit) (hg : s₁.gens = #[])
    (ha : s₁.heap.get? a = some { cls := .type "list", data := .seq vs.toArray }) (hi : IntsAre vs ns) (hl : ns.length ≤ sizeLine) (hr : Room k callerA)
    (F : ∀ base : Heap, K.In base → base.Ns mainGlobals mg → FnG P w K mg base CX0 k fa fd [x] sp) (hbind : ∀ (s : Shared) (u : Value), BindsTo s fd ⟨[u], []⟩ [(x, u)])
    (hsp : ∀ H : Hp, Only H → SqL K H a (ns.map V.int) → sp [.ref a] H (fun v _ => v = .bl true) E0) :
    codeAny (model P w) callerA (.call (.ref fa) ⟨[.ref a], []⟩) (fun r s' => r = .ok (.ret (.bool true)) ∧ OldK s₁.heap s'.heap ∧ s'.os = s₁.os ∧ AllBare s'.gens) s₁ := by
  have rv := vals_ints hi
  have main : ∀ H : Hp, Only H → SqL K H a (ns.map V.int) → HOk P w H s₁.heap → (∀ b u, H b = some u → b = a ∧ K.lookup a = none) →
      codeAny (model P w) callerA (.call (.ref fa) ⟨[.ref a], []⟩) (fun r s' => r = .ok (.ret (.bool true)) ∧ OldK s₁.heap s'.heap ∧ s'.os = s₁.os ∧ AllBare s'.gens) s₁ := by
    intro H only sq hok ours
    have stays : ∀ {b : Addr} {o : Obj}, s₁.heap.get? b = some o → H b = none → (hidT s₁.heap H).get? b = some o := fun e n => hidT_get e n
    have free : ∀ {b : Addr} {o : Obj} {es : Array DictEntry} {ep : Nat}, s₁.heap.get? b = some o → o.data = .dict es ep → H b = none := by
      intro b o es ep e d
      cases q : H b with
      | none => rfl
      | some u =>
        cases (ours b u q).1
        rw [ha] at e
        cases e
        cases d
    have spaces : ∀ {b : Addr} {m : Str → Option Value}, s₁.heap.Ns b m → (hidT s₁.heap H).Ns b m := fun {b m} ⟨o, es, ep, e, d, r⟩ => ⟨o, es, ep, stays e (free e d), d, r⟩
    have kin : K.In (hidT s₁.heap H) := by
      intro b o e
      refine stays (KX b o e) ?_
      cases q : H b with
      | none => rfl
      | some u =>
        obtain ⟨rfl, z⟩ := ours b u q
        rw [z] at e
        cases e
    have md : Mod K mg (hidT s₁.heap H) := ⟨kin, spaces hns, ⟨mb, spaces hb, hbb⟩, let ⟨mc, h1, h2⟩ := hlim; ⟨mc, spaces h1, h2⟩⟩
    have nofr : ∀ b ∈ frs ([] : List Env), H b = none := fun b z => nomatch z
    have e0 : Env0 P w K mg (hidT s₁.heap H) callerA [] s₁ H := ⟨rfl, md, fun b o e => of_hidT e, Nat.le_of_eq (hidT_size _ _), trivial, nofr, hok, .of_eq hg⟩
    refine codeAny_mono ((F _ kin (spaces hns)).go callerA [] s₁ H ⟨[.ref a], []⟩ [.ref a] [.ref a] _ _ rfl hr e0 (hbind s₁ (.ref a)) (.cons rfl .nil) (hsp H only sq)) ?_
    intro r s' h
    match r, h with
    | .error e, h => exact False.elim h
    | .ok .next, h => exact False.elim h
    | .ok .brk, h => exact False.elim h
    | .ok .cont, h => exact False.elim h
    | .ok (.ret u), h =>
      obtain ⟨v, H', os, bare, un, hok', r', rfl⟩ := h
      cases (show u = Value.bool true from r')
      refine ⟨rfl, OldK.of_keep fun b o e => ?_, os, bare⟩
      cases q : H b with
      | none => exact un.keep b o e q (fun z => nomatch z) (fun z => nomatch z)
      | some u =>
        rcases only b with z | ⟨ob, xs, z⟩
        · rw [q] at z
          cases z
        · have e1 := (hok b _ z).1
          have e2 := (hok' b _ (un.frzs b ob _ z)).1
          rw [e] at e1
          cases e1
          exact e2
  cases hk : K.lookup a with
  | some o =>
    have e := KX a o hk
    rw [ha] at e
    cases e
    have none_ : ∀ b u, (fun _ => none : Hp) b = some u → b = a ∧ K.lookup a = none := fun b u z => nomatch z
    refine main (fun _ => none) (fun _ => .inl rfl) (.inr ⟨_, vs.toArray, _, hk, rfl, rfl, rfl, ?_, by simpa using rv⟩) (fun b u z => nomatch z) none_
    rw [List.size_toArray, hi.length]
    exact hl
  | none =>
    have at_ : ∀ b u, (fun b => if b = a then some (HO.frz { cls := .type "list", data := .seq vs.toArray } (.lst (ns.map V.int))) else none : Hp) b = some u → b = a ∧ u = HO.frz { cls := .type "list", data := .seq vs.toArray } (.lst (ns.map V.int)) := by
      intro b u z
      by_cases hb : b = a
      · have z' := (if_pos hb).symm.trans z
        exact ⟨hb, (Option.some.inj z').symm⟩
      · have z' := (if_neg hb).symm.trans z
        cases z'
    refine main (fun b => if b = a then some (HO.frz { cls := .type "list", data := .seq vs.toArray } (.lst (ns.map V.int))) else none) ?_ (.inl (.inr ⟨{ cls := .type "list", data := .seq vs.toArray }, if_pos rfl⟩)) ?_ ?_
    · intro b
      by_cases hb : b = a
      · exact .inr ⟨_, _, if_pos hb⟩
      · exact .inl (if_neg hb)
    · intro b u z
      obtain ⟨rfl, rfl⟩ := at_ b u z
      exact ⟨ha, by rw [List.length_map]; exact hl, vs, _, rv, ha⟩
    · intro b u z
      exact ⟨(at_ b u z).1, hk⟩

theorem walk_G {l : PySem.W.OpenLaw} {n k : Nat} {q : Program} {loose : List Str} {XP : (Str → Option Value) → Heap → Prop} {YP : World → Heap → Prop} {d : DefRec} {x : Str}
    (hn : l.most = some n) (hn2 : n ≤ sizeLine) (hdf : d.params.defaults = []) (hr : Room k callerA)
    (F : ∀ (w : World) (mg : Str → Option Value) (fa : Addr) (h : Heap), YP w h → h.Ns mainGlobals mg → mg d.name = some (.ref fa) →
      ∃ (K : PySem.W.Frag) (fd : FuncData) (sp : Sp), K.In h ∧ (∀ (s : Shared) (u : Value), BindsTo s fd ⟨[u], []⟩ [(x, u)]) ∧
        (∀ (H : Hp) (a : Addr) (ns : List Int), ns.length ≤ n → Only H → SqL K H a (ns.map V.int) → sp [.ref a] H (fun v _ => v = .bl true) E0) ∧
        ∀ base : Heap, K.In base → base.Ns mainGlobals mg → FnG l.prog w K mg base CX0 k fa fd [x] sp) :
    PySem.W.WalkO q loose XP YP l.row.toRowW d [] (fun f vs => PySem.call f vs) := by
  apply Att.attach_call hn hdf
  intro w s₀ s₁ mg mb fa o pm cd doc a vs ns G Y ho hd hcd hmg hobj hints hlen hg
  obtain ⟨K, fd, sp, KX, hb, hsp, hF⟩ := F w mg fa _ Y G.T.g hmg
  exact law_callG KX G.T.g G.T.b G.T.builtins G.T.nolimit hg hobj hints (Nat.le_trans hlen hn2) hr hF hb fun H only sq => hsp H a ns hlen only sq

/-! ### data that is read, dicts too -/
mutual
inductive Dq (K : PySem.W.Frag) (H : Hp) : V → PyData → Prop
  | non : Dq K H .non .none
  | bl (b : Bool) : Dq K H (.bl b) (.bool b)
  | int (i : Int) : Dq K H (.int i) (.int i)
  | str (x : Str) : Dq K H (.str x) (.str x)
  | lst {a : Addr} {xs : List V} {ds : List PyData} : SqL K H a xs → DqAll K H xs ds → Dq K H (.ref a) (.list ds)
  | tup {a : Addr} {xs : List V} {ds : List PyData} : SqT K H a xs → DqAll K H xs ds → Dq K H (.ref a) (.tuple ds)
  | dct {a : Addr} {kvs : List (Key × V)} {ps : List (PyData × PyData)} : H a = some (.dK kvs) → DqKv K H kvs ps → Dq K H (.ref a) (.dict ps)
inductive DqAll (K : PySem.W.Frag) (H : Hp) : List V → List PyData → Prop
  | nil : DqAll K H [] []
  | cons {v : V} {vs : List V} {d : PyData} {ds : List PyData} : Dq K H v d → DqAll K H vs ds → DqAll K H (v :: vs) (d :: ds)
inductive DqKv (K : PySem.W.Frag) (H : Hp) : List (Key × V) → List (PyData × PyData) → Prop
  | nil : DqKv K H [] []
  | consI {i : Int} {v : V} {d : PyData} {r : List (Key × V)} {ps : List (PyData × PyData)} : Dq K H v d → DqKv K H r ps → DqKv K H ((.inl i, v) :: r) ((.int i, d) :: ps)
  | consS {x : Str} {v : V} {d : PyData} {r : List (Key × V)} {ps : List (PyData × PyData)} : Dq K H v d → DqKv K H r ps → DqKv K H ((.inr x, v) :: r) ((.str x, d) :: ps)
end
end GL
set_option maxHeartbeats 4000000
namespace GL
open PySem PySem.Spec PyProof.Rows L2
/-- the written part knows the table of modules -/
def SysK (K : PySem.W.Frag) : Prop := ∃ o es ep, K.lookup sysModules = some o ∧ o.data = .dict es ep
section
variable {X : Cx} {pins : List (Addr × Obj)} {σ : L2.St} {H : Hp} {s : Shared}
theorem notSys (S : SysK X.K) (I : Inv X pins σ H s) {a : Addr} {o : Obj} {vs : Array Value} {n : Nat} (e : s.heap.get? a = some o) (d : o.data = .seq vs n) : sysModules ≠ a := by
  rintro rfl
  obtain ⟨o', es, ep, l, d'⟩ := S
  have e' := I.kIn _ _ l
  rw [e] at e'
  cases e'
  rw [d] at d'
  cases d'
theorem kvReads {h : Heap} : ∀ {kvs : List (Key × Value)} {es : List DictEntry} {P : Program} {w : World}, Pairs (mixKind P w) es kvs →
    ∀ {ps : List (PyData × PyData)} {as : List Addr}, ReadsAll h (es.map (·.val)) (ps.map (·.2)) as → (∀ i : Nat, (kvs[i]?).map (fun kv => match kv.1 with | .inl j => PyData.int j | .inr x => PyData.str x) = (ps[i]?).map (·.1)) → ReadsAll h (es.map (·.key)) (ps.map (·.1)) [] := by
  intro kvs es P w pr
  induction pr with
  | nil =>
    intro ps as r hk
    cases ps with
    | nil => exact ReadsAll.nil
    | cons p ps => cases r
  | @cons e kv es kvs hk hv _ ih =>
    intro ps as r hh
    cases ps with
    | nil => cases r
    | cons p ps =>
      have h0 := hh 0
      have rest : ∀ i : Nat, (kvs[i]?).map (fun kv => match kv.1 with | .inl j => PyData.int j | .inr x => PyData.str x) = (ps[i]?).map (·.1) := fun i => by simpa using hh (i + 1)
      obtain ⟨pk, pv⟩ := p
      obtain ⟨k, v⟩ := kv
      simp at h0
      cases r with
      | cons r1 r2 =>
        have t := ih r2 rest
        show ReadsAll h (e.key :: es.map (·.key)) (pk :: ps.map (·.1)) ([] ++ [])
        refine ReadsAll.cons ?_ t
        rcases keyIs_shape (show keyIs k e.key = true from hk) with ⟨j, u, rfl, e1⟩ | ⟨x, u, rfl, e1⟩
        · rw [e1, ← h0]
          exact Reads.int j u
        · rw [e1, ← h0]
          exact Reads.str x u
theorem pairsVals {P : Program} {w : World} : ∀ {kvs : List (Key × Value)} {es : List DictEntry}, Pairs (mixKind P w) es kvs → es.map (·.val) = kvs.map (·.2) := by
  intro kvs es pr
  induction pr with
  | nil => rfl
  | @cons e kv es kvs _ hv _ ih => rw [List.map_cons, List.map_cons, ih, hv]
theorem kvVals : ∀ {kvs : List (Key × V)} {vs : List (Key × Value)}, KV kvs vs → Vals (kvs.map (·.2)) (vs.map (·.2)) ∧ ∀ i : Nat, (vs[i]?).map (·.1) = (kvs[i]?).map (·.1)
  | _, _, .nil => ⟨.nil, fun i => by simp⟩
  | _, _, .cons r t => by
    obtain ⟨a, b⟩ := kvVals t
    refine ⟨.cons r.2 a, fun i => ?_⟩
    cases i with
    | zero => simp [r.1]
    | succ i => simpa using b i
theorem kvKeys {K : PySem.W.Frag} {H : Hp} : ∀ {kvs : List (Key × V)} {ps : List (PyData × PyData)}, DqKv K H kvs ps → ∀ i : Nat, (kvs[i]?).map (fun kv => match kv.1 with | .inl j => PyData.int j | .inr x => PyData.str x) = (ps[i]?).map (·.1) := by
  intro kvs
  induction kvs with
  | nil =>
    intro ps h i
    cases h
    rfl
  | cons kv kvs ih =>
    intro ps h i
    cases h with
    | consI a b =>
      cases i with
      | zero => rfl
      | succ i => simpa using ih b i
    | consS a b =>
      cases i with
      | zero => rfl
      | succ i => simpa using ih b i
mutual
theorem Dq.reads (S : SysK X.K) (I : Inv X pins σ H s) : ∀ {v : V} {d : PyData} {u : Value}, Dq X.K H v d → RelV v u → ∃ as, Reads s.heap u d as ∧ sysModules ∉ as
  | _, _, _, .non, r => by
    cases r
    exact ⟨_, Reads.none, List.not_mem_nil⟩
  | _, _, _, .bl b, r => by
    cases r
    exact ⟨_, Reads.bool b, List.not_mem_nil⟩
  | _, _, _, .int i, r => by
    obtain ⟨t, rfl⟩ := r
    exact ⟨_, Reads.int i t, List.not_mem_nil⟩
  | _, _, _, .str x, r => by
    obtain ⟨t, rfl⟩ := r
    exact ⟨_, Reads.str x t, List.not_mem_nil⟩
  | _, _, _, .lst hs ha, r => by
    cases r
    obtain ⟨its, rv, ⟨o, n, ho, hc, _, hd⟩, _⟩ := I.list hs
    obtain ⟨as, hr, hn⟩ := DqAll.reads S I ha rv
    exact ⟨_, Reads.list ho hc hd hr, List.not_mem_cons_of_ne_of_not_mem (notSys S I ho hd) hn⟩
  | _, _, _, .tup hs ha, r => by
    cases r
    obtain ⟨its, rv, ⟨o, ho, hc, n, hd⟩, _⟩ := I.tuple hs
    obtain ⟨as, hr, hn⟩ := DqAll.reads S I ha rv
    exact ⟨_, Reads.tuple ho hc hd hr, hn⟩
  | _, _, _, @Dq.dct _ _ a kvs ps e hk, r => by
    cases r
    obtain ⟨_, ns, vs, kv, o, es, ep, ho, ex, hd, _, pr, _⟩ := I.hok a _ e
    obtain ⟨rv, ks⟩ := kvVals kv
    obtain ⟨as, hr, hn⟩ := DqKv.reads S I hk rv
    rw [← pairsVals pr] at hr
    have kr := kvReads pr hr (fun i => by
      rw [← kvKeys hk i]
      have := ks i
      cases q : vs[i]? <;> cases q' : kvs[i]? <;> rw [q, q'] at this <;> simp at this ⊢
      rw [this])
    refine ⟨_, Reads.dict ho ex.1 hd kr hr, ?_⟩
    refine List.not_mem_cons_of_ne_of_not_mem (fun z => ?_) (by simpa using hn)
    rw [← z] at ns
    simp at ns
theorem DqAll.reads (S : SysK X.K) (I : Inv X pins σ H s) : ∀ {vs : List V} {ds : List PyData} {us : List Value}, DqAll X.K H vs ds → Vals vs us → ∃ as, ReadsAll s.heap us ds as ∧ sysModules ∉ as
  | _, _, _, .nil, r => by
    cases r
    exact ⟨_, ReadsAll.nil, List.not_mem_nil⟩
  | _, _, _, .cons h1 h2, .cons r1 r2 => by
    obtain ⟨as, q1, n1⟩ := Dq.reads S I h1 r1
    obtain ⟨bs, q2, n2⟩ := DqAll.reads S I h2 r2
    exact ⟨_, ReadsAll.cons q1 q2, by simp [n1, n2]⟩
theorem DqKv.reads (S : SysK X.K) (I : Inv X pins σ H s) : ∀ {kvs : List (Key × V)} {ps : List (PyData × PyData)} {us : List Value}, DqKv X.K H kvs ps → Vals (kvs.map (·.2)) us → ∃ as, ReadsAll s.heap us (ps.map (·.2)) as ∧ sysModules ∉ as
  | _, _, _, .nil, r => by
    cases r
    exact ⟨_, ReadsAll.nil, List.not_mem_nil⟩
  | _, _, _, .consI h1 h2, .cons r1 r2 => by
    obtain ⟨as, q1, n1⟩ := Dq.reads S I h1 r1
    obtain ⟨bs, q2, n2⟩ := DqKv.reads S I h2 r2
    exact ⟨_, ReadsAll.cons q1 q2, by simp [n1, n2]⟩
  | _, _, _, .consS h1 h2, .cons r1 r2 => by
    obtain ⟨as, q1, n1⟩ := Dq.reads S I h1 r1
    obtain ⟨bs, q2, n2⟩ := DqKv.reads S I h2 r2
    exact ⟨_, ReadsAll.cons q1 q2, by simp [n1, n2]⟩
end
end

/-! ### repr of data -/
def rRepr (K : PySem.W.Frag) : List V → Hp → VK → Prop := fun xs H Q => ∃ (a : Addr) (d : PyData), xs = [.ref a] ∧ Dq K H (.ref a) d ∧ d.showable = true ∧ d.depth ≤ 40 ∧ d.shown.length ≤ sizeLine ∧ Q (.str d.shown) H
theorem call_reprD {X : Cx} (S : SysK X.K) (gd : X.A.guards = some []) (hu : X.A.units + 64 < cLine) : CallR X (.builtin "repr") (rRepr X.K) := by
  intro pins s σ H xs us Q I r h
  obtain ⟨a, d, rfl, hd, sh, dp, sz, q⟩ := h
  cases r with
  | cons r1 r2 =>
    cases r2
    cases r1
    obtain ⟨as, rd, ns⟩ := Dq.reads S I hd rfl
    refine repr_of_reads' rd sh (fun _ => ns) gd (by omega) (fun b o e => e) (fun h' u tk keep => ?_) sz
    exact ⟨.str d.shown, H, I.kept keep, ⟨u, rfl⟩, q⟩
end GL
set_option maxHeartbeats 4000000
/-! Errors of the program as values: made by places and by names, their fields stored and read, isinstance. -/
namespace PySem
namespace GX
open PySem.W PySem.Calls PyProof.Rows PySem.HandSPX Builtin Builtin.ObjectAttr
section
variable {prog : Program} {w : World} {A : Around} {E : Value → Shared → Prop} {R : Result → Shared → Prop} {hp : Heap} {g : Array GenState} {d : Drawn} {t : Nat} {os : OsState}
variable {nm q : Str} {C N : Addr} {bs bm bmB : List Value} {hdct : Bool} {sn : List Str} {sub : List Value} {ab : Bool} {col : Option Bool} {dd : Option Addr} {k0 k1 k2 k3 k5 : Option Value} {B newId initId : String}
theorem tail_some {l : List Value} (hB : bmB.isEmpty = false) (e : excTail bmB l = true) : l.isEmpty = false := by
  cases l with
  | cons _ _ => rfl
  | nil =>
    have q : ([] : List Value) = bmB := beq_iff_eq.mp e
    rw [← q] at hB
    exact hB
/-- the way of a store at an error's object as far as the own dict -/
theorem to_own {K : W.Frag} {name : Str} {tk : Tok} {v : Value} {x : Addr} {ox : Obj} {od : Option Obj} {cd : ClassData} (SB : StoreFacts B bmB "object.__setattr__" "object") (hB : bmB.isEmpty = false) (hO : bmB.contains (.type "object") = true)
    (X : K.In hp) (I : W.InstAt hp x ox C od) (hcd : W.clsIn K C = some cd) (hm : excTail bmB cd.mro = true) (ha : W.findIn K (.ref C) name = some none)
    (h : wpAny (model prog w) A.in1 (storeInOwnDict (.ref x) (.ref C) (.str name tk) name v false)
      (fun fin s' => match fin with | .done f => R (.ok f) s' | .again c' => c'.quiet = true ∧ codeAny (model prog w) A c' R s') (fun e s' => R (.error e) s') ⟨hp, g, d, t, os⟩) :
    codeAny (model prog w) A (.call (.builtin "object.__setattr__") ⟨[.ref x, .str name tk, v], []⟩) R ⟨hp, g, d, t, os⟩ := by
  have SO := F.store_object
  have some_ := tail_some hB hm
  have obj : cd.mro.contains (.type "object") = true := (excTail_contains "object" _ hm).trans hO
  have isO : W.Looks (model prog w) hp (isInstance (.ref x) (.type "object")) true := by
    refine I.type.andThen (W.looks_mroIn X ?_)
    unfold W.mroIn
    rw [hcd, Option.bind_some, some_, obj]
    rfl
  apply codeAny_call_builtin SO.slot.plain SO.entry
  refine @W.check_slot (model prog w) _ _ ⟨hp, g, d, t, os⟩ "object.__setattr__" "object" "__setattr__" (.ref x) [.str name tk, v] [] _ SO.kind SO.split isO (SO.args (.ref x) (.str name tk) v) ?_
  have mro : W.Looks (model prog w) hp (mroOf (.ref C)) cd.mro := (W.looks_clsIn X hcd).andThen .now
  have nobody : W.Looks (model prog w) hp (storeTaker? none) none := .now
  rw [W.osa_eq, refuse_eq]
  apply wpAny_bind
  apply wpAny_bind
  apply I.type.at
  apply wpAny_bind
  apply mro.at
  rw [excTail_pass (.ref x) (SB.passes (.ref x)) _ hm]
  apply wpAny_pure
  apply wpAny_bind
  apply I.type.at
  apply wpAny_bind
  apply (W.looks_findIn X ha).at
  apply wpAny_bind
  apply nobody.at
  exact h
/-- the first field: the error gets its dict -/
theorem store_first {K : W.Frag} {name : Str} {tk : Tok} {v : Value} {x : Addr} {fv : Array Value} {cd : ClassData} (SB : StoreFacts B bmB "object.__setattr__" "object") (hB : bmB.isEmpty = false) (hO : bmB.contains (.type "object") = true)
    (X : K.In hp) (hx : hp.get? x = some { cls := .ref C, data := .fields fv }) (hcd : W.clsIn K C = some cd) (hm : excTail bmB cd.mro = true) (hh : cd.hasDict = true) (ha : W.findIn K (.ref C) name = some none)
    (hq : ∀ h' tk' dx, (∀ b o, b ≠ x → hp.get? b = some o → h'.get? b = some o) → hp.objs.size ≤ dx → dx ≠ x → h'.get? x = some { cls := .ref C, dict := some dx, data := .fields fv } →
      h'.Ns1 dx (fun y => if y = name then some v else none) → R (.ok (.ret .none)) ⟨h', g, d, tk', os⟩) :
    codeAny (model prog w) A (.call (.builtin "object.__setattr__") ⟨[.ref x, .str name tk, v], []⟩) R ⟨hp, g, d, t, os⟩ := by
  have I : W.InstAt hp x { cls := .ref C, data := .fields fv } C none := ⟨hx, rfl, rfl, trivial⟩
  have cl : W.Looks (model prog w) hp (classData C) cd := W.looks_clsIn X hcd
  have apart : x ≠ hp.objs.size := Nat.ne_of_lt (Heap.lt_size hx)
  apply to_own SB hB hO X I hcd hm ha
  rcases cd with ⟨n1, n2, n3, n4, n5, n6, n7, n8, n9, n10, n11⟩
  cases (show n6 = true from hh)
  unfold storeInOwnDict ownDictForStores
  repeat (first | with_reducible refine HandSPX.store_in_new ?_ ?_ | with_reducible refine wpAny_loadPart_at hx ?_ | with_reducible refine cl.at ?_ | wp_step)
  · exact ⟨_, #[], _, (Heap.get?_update_ne _ _ _ _ apart.symm).trans (Heap.get?_push_at rfl rfl), rfl, fun e he => absurd he (by simp), fun _ => rfl⟩
  · intro h' tk' named but
    have there : (hp.push { cls := .type "dict", data := .dict #[] }).get? x = some { cls := .ref C, data := .fields fv } := Heap.get?_push_of_some _ hx
    apply hq h' tk' hp.objs.size
    · intro b o hb ho
      rw [but.2 b (Nat.ne_of_lt (Heap.lt_size ho)), Heap.get?_update_ne _ _ _ _ hb]
      exact Heap.get?_push_of_some _ ho
    · exact Nat.le_refl _
    · exact apart.symm
    · rw [but.2 x apart]
      exact Heap.get?_update_self _ there rfl
    · exact named
/-- a further field -/
theorem store_next {K : W.Frag} {name : Str} {tk : Tok} {v : Value} {x dx : Addr} {fv : Array Value} {cd : ClassData} {m0 : Str → Option Value} {nl : List Str} (SB : StoreFacts B bmB "object.__setattr__" "object") (hB : bmB.isEmpty = false) (hO : bmB.contains (.type "object") = true)
    (X : K.In hp) (hx : hp.get? x = some { cls := .ref C, dict := some dx, data := .fields fv }) (hns : hp.Ns1 dx m0) (hw : Within m0 nl) (hz : nl.length ≤ 1000) (hcd : W.clsIn K C = some cd) (hm : excTail bmB cd.mro = true) (hh : cd.hasDict = true) (ha : W.findIn K (.ref C) name = some none)
    (hq : ∀ h' tk', (∀ b o, b ≠ dx → hp.get? b = some o → h'.get? b = some o) → h'.Ns1 dx (fun y => if y = name then some v else m0 y) → R (.ok (.ret .none)) ⟨h', g, d, tk', os⟩) :
    codeAny (model prog w) A (.call (.builtin "object.__setattr__") ⟨[.ref x, .str name tk, v], []⟩) R ⟨hp, g, d, t, os⟩ := by
  obtain ⟨oD, esD, epD, atD, isD, _⟩ := hns.count hw
  have I : W.InstAt hp x { cls := .ref C, dict := some dx, data := .fields fv } C (some oD) := ⟨hx, rfl, rfl, atD⟩
  have cl : W.Looks (model prog w) hp (classData C) cd := W.looks_clsIn X hcd
  apply to_own SB hB hO X I hcd hm ha
  rcases cd with ⟨n1, n2, n3, n4, n5, n6, n7, n8, n9, n10, n11⟩
  cases (show n6 = true from hh)
  unfold storeInOwnDict ownDictForStores
  repeat (first | with_reducible refine OEX.store_in_old hns hw hz ?_ | with_reducible refine wpAny_loadPart_at hx ?_ | with_reducible refine cl.at ?_ | wp_step)
  intro h' tk' named but
  exact hq h' tk' (fun b o hb ho => (but.2 b hb).trans ho) named

/-! ### C(.., k = ..) of an error class with an __init__ of its own -/
theorem made (FB : ExcBaseFacts B newId initId bmB) (hT : ∀ X : String, bm.contains (.type X) = bmB.contains (.type X)) {rest : List Value} {kw : List (Str × Value)} {fI : Addr}
    (hC : hp.get? C = some (excClassObj nm q C N bs bm hdct sn sub ab col dd k0 k1 k2 k3 k5 newId))
    (hi : W.Looks (model prog w) hp (typeLookup (.ref C) "__init__") (some (.ref fI))) (hb : ∀ self, W.Looks (model prog w) hp (bindSpecial (.ref fI) self) (.ref fI, [self])) (hrest : rest.length ≤ sizeLine)
    (hq : codeAny (model prog w) (A.under (.builtin "type.__call__" ⟨.ref C :: rest, kw⟩)) (.call (.ref fI) ⟨.ref (hp.objs.size + 1) :: rest, kw⟩) (W.InitBack (hp.objs.size + 1) R)
      ⟨(hp.push (W.kdv_tup rest)).push (excO C hp.objs.size), g, d, t, os⟩) :
    codeAny (model prog w) A (.call (.ref C) ⟨rest, kw⟩) R ⟨hp, g, d, t, os⟩ := by
  have f1 := tc_lookup
  have f2 := tc_bind (.ref C)
  have isC : (⟨hp, g, d, t, os⟩ : Shared).TypeIs (.ref C) "type" := ⟨_, hC, rfl⟩
  have kept : ∀ b o, hp.get? b = some o → ((hp.push (W.kdv_tup rest)).push (excO C hp.objs.size)).get? b = some o := fun b o e => Heap.get?_push_of_some _ (Heap.get?_push_of_some _ e)
  have inB : (Value.ref C :: bm).contains (.type B) = true := by rw [List.contains_cons, hT, FB.hasB, Bool.or_true]
  have noA : (Value.ref C :: bm).contains (.type "AttributeError") = false := by rw [List.contains_cons, hT, FB.noAttr]; rfl
  have noN : (Value.ref C :: bm).contains (.type "NameError") = false := by rw [List.contains_cons, hT, FB.noName]; rfl
  have inC : (Value.ref C :: bm).contains (.ref C) = true := by simp
  have ends := FB.ends
  have star := FB.noStar
  apply codeAny_of_tree
  show wpAny _ _ (callAny (.ref C) _) _ _ _
  repeat (any_goals (first | assumption | with_reducible refine wpAny_loadPart_at hC ?_ | wp_step))
  refine ⟨rfl, ?_⟩
  apply codeAny_call_builtin_at (Code.quiet_builtin _ (by decide +kernel)) entry_typeCall
  apply wpAny_check_type_call_sub hC
  repeat (first | with_reducible refine wpAny_loadPart_at hC ?_ | with_reducible refine wpAny_madeBy_exc hC ?_ | wp_step)
  apply codeAny_call_builtin_code (Code.quiet_builtin _ FB.quiet)
  simp only [checkBuiltinCall, FB.newKind, FB.newSplit, FB.newRow]
  repeat (first | refine wpAny_loadPart_at hC ?_ | (refine wpAny_isSubtype_exc hC ?_; rw [inB]) | refine wpAny_staticBase_exc hC ?_ | refine wpAny_madeBy_exc hC ?_ | simp only [bne_self_eq_false, Bool.false_eq_true, if_false] | wp_step)
  show codeAny _ _ (Code.builtin newId { pos := Value.ref C :: rest, kw := kw }) _ _
  refine codeAny_builtinAt FB.entry ?_
  unfold Builtin.«BaseException.__new__»
  apply wpAt_bind
  show wpAt _ _ _ (stack >>= _) _ _ _
  refine wpAt_bind (wpAt_stack fun p below => wpAt_of_wpAny ?_)
  wp_walk
  apply wpAt_of_wpAny
  rw [FB.owner]
  repeat (first | with_reducible refine wpAny_madeHere_exc FB.canon hC ?_ | with_reducible refine wpAny_loadPart_at hC ?_ | (with_reducible refine wpAny_isSubtype_exc hC ?_; first | rw [inB] | rw [noA] | rw [noN]) | wp_step)
  show wpAny _ _ _ _ _ _
  rw [Heap.size_push]
  have hC₁ := kept _ _ hC
  have new : ((hp.push (W.kdv_tup rest)).push (excO C hp.objs.size)).get? (hp.objs.size + 1) = some (excO C hp.objs.size) := by heap_get
  have i1 := hi.keeps kept
  have b1 := (hb (.ref (hp.objs.size + 1))).keeps kept
  show wpAny _ _ (isSubtype (.ref C) (.ref C)) _ _ ⟨(hp.push (W.kdv_tup rest)).push (excO C hp.objs.size), g, d, t, os⟩
  refine wpAny_isSubtype_exc hC₁ ?_
  rw [inC]
  repeat (first | with_reducible refine wpAny_loadPart_at new ?_ | wp_step)
  show wpAny _ _ (typeLookup (.ref C) _) _ _ _
  apply i1.at
  apply wpAny_holding
  apply wpAny_bind
  apply b1.at
  apply wpAny_bind
  apply wpAny_call
  refine codeAny_mono hq fun r s' z => ?_
  rcases r with e | (v | _ | _ | _) <;> first | exact z | exact z.elim | skip
  obtain ⟨rfl, z⟩ := z
  first
    | exact wpAny_pure (wpAny_pure z)
    | (wp_walk; exact z)
end
end GX
end PySem
set_option maxHeartbeats 4000000
namespace GL
open PySem PySem.Spec PyProof.Rows L2
/-! ### the hook: the library's facts, and any Bool over the written part, the table of modules in it -/
def kOf (n : Nat) (g : Addr → Option Obj) : PySem.W.Frag := He.frG g (sysModules :: He.asD g n)
abbrev AlX : Type := He.AlD × Bool
def obsX (n : Nat) (fa : List He.Fa) (fn : List He.DefD) (ex : PySem.W.Frag → Bool) (g : Addr → Option Obj) : AlX := (He.obsD fa fn (kOf n g), ex (kOf n g))
def hookX (n : Nat) (fa : List He.Fa) (fn : List He.DefD) (ex : PySem.W.Frag → Bool) : PySem.W.Hook where
  α := AlX
  obs := fun s => obsX n fa fn ex s.heap.get?
  val := fun _ => (He.valD fn, true)
  says := fun _ h => ∃ K : PySem.W.Frag, K.In h ∧ He.SaysD fa fn K ∧ ex K = true
  of := fun _ _ e => ⟨_, He.frG_in, congrArg (fun z : AlX => z.1) e, congrArg (fun z : AlX => z.2) e⟩
  keeps := fun _ _ _ ⟨K, hK, c⟩ k => ⟨K, PySem.W.Frag.In.keeps hK k, c⟩
theorem obsX_eq {n : Nat} {fa : List He.Fa} {fn : List He.DefD} {ex : PySem.W.Frag → Bool} {g : Addr → Option Obj} {s : Shared} (h : ∀ a, g a = s.heap.get? a) : obsX n fa fn ex g = (hookX n fa fn ex).obs s := by
  have e : g = s.heap.get? := funext h
  rw [e]
  rfl
def sysB (K : PySem.W.Frag) : Bool := match K.lookup sysModules with
  | some ⟨_, _, .dict _ _, _⟩ => true
  | _ => false
theorem sysB_ok {K : PySem.W.Frag} (h : sysB K = true) : SysK K := by
  unfold sysB at h
  cases q : K.lookup sysModules with
  | none =>
    rw [q] at h
    cases h
  | some o =>
    obtain ⟨c, dd, dt, sl⟩ := o
    rw [q] at h
    cases dt with
    | dict es ep => exact ⟨_, es, ep, q, rfl⟩
    | _ => cases h

/-! ### classes of errors -/
inductive EB where
  | ve | le | re
  deriving DecidableEq
def EB.name : EB → String
  | .ve => "ValueError"
  | .le => "LookupError"
  | .re => "RuntimeError"
def EB.new : EB → String
  | .ve => "ValueError.__new__"
  | .le => "LookupError.__new__"
  | .re => "RuntimeError.__new__"
def EB.tail (b : EB) : List Value := [.type b.name, .type "Exception", .type "BaseException", .type "object"]
theorem EB.base (b : EB) : ∃ i, ExcBaseFacts b.name b.new i b.tail := by
  cases b with
  | ve => exact ⟨_, PySem.F.excBase_ValueError⟩
  | le => exact ⟨_, PySem.F.excBase_LookupError⟩
  | re => exact ⟨_, PySem.F.excBase_RuntimeError⟩
theorem EB.store (b : EB) : StoreFacts b.name b.tail "object.__setattr__" "object" := by
  cases b with
  | ve => exact PySem.F.store_ValueError
  | le => exact PySem.F.store_LookupError
  | re => exact PySem.F.store_RuntimeError
theorem EB.obj (b : EB) : b.tail.contains (.type "object") = true := by cases b <;> decide +kernel
/-- what the written part says of a class of errors -/
structure XC (K : PySem.W.Frag) (C : Addr) (b : EB) : Prop where
  cls : ∃ nm q N bs bm sn sub ab col dd k0 k1 k2 k3 k5, K.lookup C = some (excClassObj nm q C N bs bm true sn sub ab col dd k0 k1 k2 k3 k5 b.new) ∧ PySem.W.excTail b.tail bm = true
  sa : PySem.W.findIn K (.ref C) "__setattr__" = some (some (.builtin "object.__setattr__"))
  ga : PySem.W.findIn K (.ref C) "__getattribute__" = some (some (.builtin "BaseException.__getattribute__"))
  gg : PySem.W.findIn K (.ref C) "__getattr__" = some none
  kl : PySem.W.findIn K (.ref C) "__class__" = some (some (.builtin "object.__class__"))
  exB : PySem.W.subIn K (.ref C) (.type "BaseException") = some true
  ob : PySem.W.mroIn K C (.type "object") = some true
  keep : PySem.W.keepIn K (.ref C) = true
def xcB (K : PySem.W.Frag) (C : Addr) (b : EB) : Bool :=
  (match K.lookup C with
  | some ⟨.type "type", _, .cls cd, sl⟩ => (match cd.mro, sl.toList with
    | .ref C' :: bm, [_, _, _, _, some (.builtin n), _] => C' == C && (n == b.new && (!cd.hasDel && (cd.hasDict && PySem.W.excTail b.tail bm)))
    | _, _ => false)
  | _ => false) &&
  (He.eqO (PySem.W.findIn K (.ref C) "__setattr__") (some (some (.builtin "object.__setattr__"))) && (He.eqO (PySem.W.findIn K (.ref C) "__getattribute__") (some (some (.builtin "BaseException.__getattribute__"))) &&
  (He.eqO (PySem.W.findIn K (.ref C) "__getattr__") (some none) && (He.eqO (PySem.W.findIn K (.ref C) "__class__") (some (some (.builtin "object.__class__"))) &&
  (decide (PySem.W.subIn K (.ref C) (.type "BaseException") = some true) && (decide (PySem.W.mroIn K C (.type "object") = some true) && PySem.W.keepIn K (.ref C)))))))
theorem xcB_ok {K : PySem.W.Frag} {C : Addr} {b : EB} (h : xcB K C b = true) : XC K C b := by
  obtain ⟨h0, h⟩ := He.ba h
  obtain ⟨h1, h⟩ := He.ba h
  obtain ⟨h2, h⟩ := He.ba h
  obtain ⟨h3, h⟩ := He.ba h
  obtain ⟨h4, h⟩ := He.ba h
  obtain ⟨h5, h⟩ := He.ba h
  obtain ⟨h6, h7⟩ := He.ba h
  refine ⟨?_, He.eqO_ok h1, He.eqO_ok h2, He.eqO_ok h3, He.eqO_ok h4, of_decide_eq_true h5, of_decide_eq_true h6, h7⟩
  split at h0
  · rename_i dd cd sl ho
    split at h0
    · rename_i C' bm k0 k1 k2 k3 n k5 hm hs
      simp only [Bool.and_eq_true, beq_iff_eq, Bool.not_eq_true'] at h0
      obtain ⟨rfl, rfl, e1, e2, e3⟩ := h0
      obtain ⟨nm, bs, mro, ns, qn, hd, sn, sub, ab, col, del⟩ := cd
      dsimp only at hm e1 e2
      subst hm e1 e2
      have hsl : sl = #[k0, k1, k2, k3, some (.builtin b.new), k5] := by
        obtain ⟨l⟩ := sl
        simp only at hs
        rw [hs]
      subst hsl
      exact ⟨nm, qn, ns, bs, bm, sn, sub, ab, col, dd, k0, k1, k2, k3, k5, ho, e3⟩
    · cases h0
  · cases h0
theorem XC.data {K : PySem.W.Frag} {C : Addr} {b : EB} (T : XC K C b) : ∃ cd, PySem.W.clsIn K C = some cd ∧ PySem.W.excTail b.tail cd.mro = true ∧ cd.hasDict = true := by
  obtain ⟨nm, q, N, bs, bm, sn, sub, ab, col, dd, k0, k1, k2, k3, k5, hC, hbm⟩ := T.cls
  refine ⟨{ name := nm, bases := bs, mro := .ref C :: bm, ns := N, qualname := q, hasDict := true, slotNames := sn, subclasses := sub, abstract := ab, collection := col, hasDel := false }, ?_, hbm, rfl⟩
  unfold PySem.W.clsIn
  rw [hC]

section
variable {X : Cx} {pins : List (Addr × Obj)} {σ : L2.St} {H : Hp} {s : Shared} {a C dx : Addr} {b : EB} {f : Str} {y : V} {u : Value} {fs : List (Str × V)} {Q : Unit → Shared → Prop} {E : Value → Shared → Prop} {A : Around}
theorem put_first (T : XC X.K C b) (I : Inv X pins σ H s) (e : H a = some (exo a C none)) (hno : PySem.W.findIn X.K (.ref C) f = some none) (ry : RelV y u)
    (h : ∀ dx s', H dx = none → dx ≠ a → Inv X pins σ (upd (upd H dx (exd dx [(f, y)])) a (exo a C (some dx))) s' → Q () s') : wpAny (model X.prog X.w) A (setAttr (.ref a) f u) Q E s := by
  obtain ⟨cd, hcl, tl, hd⟩ := T.data
  obtain ⟨t1, ho⟩ := exo_at I.hok e
  rcases s with ⟨hp, g, d, t, os⟩
  refine PySem.W.set_plain I.kIn (ox := { cls := .ref C, dict := none, data := .fields #[.ref t1, .none, .none, .none, .bool false, .none] }) (od := none) ⟨ho, rfl, rfl, trivial⟩ T.sa ?_
  refine PySem.GX.store_first b.store rfl b.obj I.kIn ho hcl tl hd hno (fun h' tk' dx k dn dne hx hn => ?_)
  have newD : H dx = none := I.hok.fresh dn
  have offD : ∀ {c : Addr} {o : Obj}, hp.get? c = some o → c ≠ dx := fun q => Nat.ne_of_lt (Nat.lt_of_lt_of_le (Heap.lt_size q) dn)
  have offA : ∀ {c : Addr}, H c = none → c ≠ a := by
    rintro c n rfl
    rw [e] at n
    cases n
  refine h dx _ newD dne (I.un (t' := tk') ?_ fun c o q => ?_)
  · exact {
      keep := fun c o q n _ _ => k c o (offA n) q
      slot := fun c o q n _ _ => ⟨o.slots, k c o (offA n) q⟩
      free := fun c o q n _ => by rw [upd_ne (offA n), upd_ne (offD q)]; exact n
      there := fun c o q _ => by
        by_cases hc : c = a
        · exact ⟨_, by rw [hc]; exact hx⟩
        · exact ⟨o, k c o hc q⟩
      tups := fun c xs q => by rw [upd_ne (at_ne e q exo_tup), upd_ne (ne_of_none q newD)]; exact q
      frzs := fun c o v q => by rw [upd_ne (at_ne e q exo_frz), upd_ne (ne_of_none q newD)]; exact q
      tbls := fun c ps q => ⟨#[], by rw [upd_ne (at_ne e q exo_tbl), upd_ne (ne_of_none q newD), q]; simp⟩ }
  · by_cases hc : c = a
    · subst hc
      rw [upd_same] at q
      cases q
      exact exo_ok hx
    · rw [upd_ne hc] at q
      by_cases hd : c = dx
      · subst hd
        rw [upd_same] at q
        cases q
        exact exd_ok hn (relO_put (fs := []) ry fun g => True.intro)
      · rw [upd_ne hd] at q
        refine (I.hok c o q).stay (fun c' v hc' z => k c' v ?_ z) (fun c' hc' => ?_) (fun c' xs hc' => ?_)
        · rcases hc' with hc' | hc'
          · rw [hc']
            exact hc
          · exact at_ne e hc' exo_own
        · rw [upd_ne (at_ne e hc' exo_own), upd_ne (ne_of_none hc' newD)]
          exact hc'
        · rw [upd_ne (at_ne e hc' exo_tup), upd_ne (ne_of_none hc' newD)]
          exact hc'
theorem put_next (T : XC X.K C b) (I : Inv X pins σ H s) (e : H a = some (exo a C (some dx))) (ed : H dx = some (exd dx fs)) (hl : fs.length ≤ 900) (hno : PySem.W.findIn X.K (.ref C) f = some none) (ry : RelV y u)
    (h : ∀ s', Inv X pins σ (upd H dx (exd dx ((f, y) :: fs))) s' → Q () s') : wpAny (model X.prog X.w) A (setAttr (.ref a) f u) Q E s := by
  obtain ⟨cd, hcl, tl, hd⟩ := T.data
  obtain ⟨t1, ho⟩ := exo_at I.hok e
  obtain ⟨mA, hns, rel⟩ := exd_at I.hok ed
  have hw := within_of rel
  rcases s with ⟨hp, g, d, t, os⟩
  obtain ⟨oD, _, _, hoD, _, _⟩ := hns.count hw
  refine PySem.W.set_plain I.kIn (ox := { cls := .ref C, dict := some dx, data := .fields #[.ref t1, .none, .none, .none, .bool false, .none] }) (od := some oD) ⟨ho, rfl, rfl, hoD⟩ T.sa ?_
  refine PySem.GX.store_next b.store rfl b.obj I.kIn ho hns hw (by rw [List.length_map]; omega) hcl tl hd hno (fun h' tk' k hn => ?_)
  have hd : ∃ o, h'.get? dx = some o := by
    obtain ⟨o, _, _, e', _⟩ := hn
    exact ⟨o, e'⟩
  exact h _ (I.write (t' := tk') (x := dx) (e := dx) (o := exd dx ((f, y) :: fs)) (by rw [ed]; exact True.intro) (.inl rfl) k hd (exd_ok hn (relO_put ry rel)))
end
/-- self.f = e in an __init__ of an error -/
def tPut (K : PySem.W.Frag) (f : Str) (to te : TE) : TS := fun D σ H => te σ H fun y H1 => to σ H1 fun x H2 => ∃ (a C : Addr) (b : EB), x = .ref a ∧ XC K C b ∧ PySem.W.findIn K (.ref C) f = some none ∧
  ((H2 a = some (exo a C none) ∧ ∀ dx, H2 dx = none → dx ≠ a → D.nx σ (upd (upd H2 dx (exd dx [(f, y)])) a (exo a C (some dx)))) ∨
    ∃ (dx : Addr) (fs : List (Str × V)), H2 a = some (exo a C (some dx)) ∧ H2 dx = some (exd dx fs) ∧ fs.length ≤ 900 ∧ D.nx σ (upd H2 dx (exd dx ((f, y) :: fs))))
section
variable {X : Cx} {o e : Expr} {es : List Expr} {to te : TE} {ta : TA} {f : Str} {p p' p1 p2 pos : Pos}
theorem ps_put (ho : PE X o to) (he : PE X e te) (hs : swapsWith e (some (.Attribute o f p')) pos.line X.env = pure false := by rfl) : PS X (.Assign [.Attribute o f p'] e pos) (tPut X.K f to te) := by
  constructor
  intro pins s σ H D I h
  refine plainObj_wpAny_Assign_Attribute (thn (he.run pins s σ H _ I h) ?_) hs
  rintro v s1 ⟨y, H1, I1, r1, q1⟩
  refine thn (ho.run pins s1 σ H1 _ I1 q1) ?_
  rintro u s2 ⟨x, H2, I2, r2, a, C, b, rfl, T, hno, q⟩
  cases (show u = Value.ref a from r2)
  rcases q with ⟨ea, q⟩ | ⟨dx, fs, ea, ed, hl, q⟩
  · exact put_first T I2 ea hno r1 fun dx s' n ne J => ⟨σ, _, J, q dx n ne⟩
  · exact put_next T I2 ea ed hl hno r1 fun s' J => ⟨σ, _, J, q⟩

/-! ### an error made, as a value -/
/-- its __init__ runs with these parameters -/
def tErr (C : Addr) (sp : Sp) (t : TA) : TE := fun σ H Q => t σ H fun vs H1 => vs.length ≤ 1000 ∧ ∀ a, H1 a = none → sp (.ref a :: vs) (upd H1 a (exo a C none)) (fun v H2 => v = .non ∧ Q (.ref a) H2) E0
theorem run_err {pins : List (Addr × Obj)} {σ : L2.St} {H : Hp} {s : Shared} {Q : VK} {C fI : Addr} {b : EB} {k : Nat} {fd : FuncData} {ps : List Str} {sp : Sp} {us all : List Value} {kw : List (Str × Value)} {vs : List V} (T : XC X.K C b)
    (iC : PySem.W.findIn X.K (.ref C) "__init__" = some (some (.ref fI))) (tI : PySem.W.typeIn X.K (.ref fI) = some (.type "function")) (F1 : FnOk X.prog X.w X.K X.mg X.base CX0 k fI fd ps sp) (hr : Room (k + 1) X.A)
    (hb : ∀ (s' : Shared) (z : Value), X.K.In s'.heap → BindsTo s' fd ⟨z :: us, kw⟩ (ps.zip (z :: all))) (hl : us.length ≤ 1000) (I : Inv X pins σ H s) (r : Vals vs all)
    (h : ∀ a, H a = none → sp (.ref a :: vs) (upd H a (exo a C none)) (fun v H2 => v = .non ∧ Q (.ref a) H2) E0) :
    wpAny (model X.prog X.w) X.A (PySem.call (.ref C) us kw) (EP X pins σ Q) X.xe s := by
  obtain ⟨nm, q, N, bs, bm, sn, sub, ab, col, dd, k0, k1, k2, k3, k5, hC, hbm⟩ := T.cls
  obtain ⟨i, FB⟩ := b.base
  rcases s with ⟨hp, g, dr, tk, os⟩
  have hsz : hp.objs.size ≤ hp.objs.size + 1 := Nat.le_succ _
  have hn : H (hp.objs.size + 1) = none := I.hok.fresh hsz
  have hq := h (hp.objs.size + 1) hn
  have kk : ∀ b o, hp.get? b = some o → ((hp.push (PySem.W.kdv_tup us)).push (PySem.HandSPX.excO C hp.objs.size)).get? b = some o := fun b o e => Heap.get?_push_of_some _ (Heap.get?_push_of_some _ e)
  have hget : ((hp.push (PySem.W.kdv_tup us)).push (PySem.HandSPX.excO C hp.objs.size)).get? (hp.objs.size + 1) = some (PySem.HandSPX.excO C hp.objs.size) := by heap_get
  have J : Inv X pins σ (upd H (hp.objs.size + 1) (exo (hp.objs.size + 1) C none)) ⟨(hp.push (PySem.W.kdv_tup us)).push (PySem.HandSPX.excO C hp.objs.size), g, dr, tk, os⟩ := I.laid (t' := tk) kk hsz (exo_ok hget)
  have rr : Vals (V.ref (hp.objs.size + 1) :: vs) (Value.ref (hp.objs.size + 1) :: all) := .cons rfl r
  have small : us.length ≤ sizeLine := by
    rw [sizeLine_eq]
    omega
  refine wpAny_call (PySem.GX.made FB (fun Y => PySem.W.excTail_contains Y bm hbm) (I.kIn _ _ hC) (PySem.W.looks_findIn I.kIn iC) (fun self => PySem.W.bind_fn I.kIn self tI) small ?_)
  refine codeAny_mono (F1.run _ X.stack _ _ ⟨Value.ref (hp.objs.size + 1) :: us, kw⟩ (Value.ref (hp.objs.size + 1) :: all) _ _ E0 (hr.make C us kw) (J.env0.make C us kw) (hb _ _ J.kIn) rr hq) ?_
  intro r' s' z
  match r', z with
  | .error er, z => exact False.elim z
  | .ok .next, z => exact False.elim z
  | .ok .brk, z => exact False.elim z
  | .ok .cont, z => exact False.elim z
  | .ok (.ret u), z =>
    obtain ⟨v, H', K1, rv, rfl, q3⟩ := J.after z
    exact ⟨rv, V.ref (hp.objs.size + 1), H', K1, rfl, q3⟩
theorem pe_err {x : Str} {C fI : Addr} {b : EB} {k : Nat} {fd : FuncData} {ps : List Str} {sp : Sp} (T : XC X.K C b) (iC : PySem.W.findIn X.K (.ref C) "__init__" = some (some (.ref fI))) (tI : PySem.W.typeIn X.K (.ref fI) = some (.type "function"))
    (F1 : FnOk X.prog X.w X.K X.mg X.base CX0 k fI fd ps sp) (hr : Room (k + 1) X.A) (hb : Binds X.K fd ps []) (hg : Gl X x) (hm : X.mg x = some (.ref C)) (ha : PA X (e :: es) ta)
    (hdb : (x == ("__debug__" : Str)) = false := by decide) (he : starEach (e :: es) X.env = (false, eval e X.env) :: starEach es X.env := by rfl) (hpl : (backTo pos (starEach es X.env)).any (·.1) = false := by rfl) :
    PE X (.Call (.Name x p) (e :: es) [] pos) (tErr C sp ta) := by
  constructor
  intro pins s σ H Q I h
  apply wpAny_Call_Name_kw
  refine ld_glob I hg hm ?_ hdb
  refine PySem.W.callWith_K (h₀ := X.base) I.ok.mod.kin T.keep (thn (ha.run pos pins s σ H _ I h) ?_) he hpl
  rintro us s1 ⟨vs, H1, I1, r1, hz, q1⟩
  refine ⟨I1.kIn, run_err T iC tI F1 hr (all := us) (fun s' z kin => ?_) (by show us.length ≤ 1000; rw [← Paired.length r1]; exact hz) I1 r1 q1⟩
  have l := F1.len _ _ _ _ (q1 s1.heap.objs.size (I1.hok.fresh (Nat.le_refl _)))
  have b := hb s' (z :: us) kin (by rw [List.append_nil, ← l, List.length_cons, List.length_cons, Paired.length r1])
  simpa using b
end

/-! ### an error's field, isinstance of an error -/
/-- an error of the class at C with these fields -/
def ErrAt (H : Hp) (e C : Addr) (fs : List (Str × V)) : Prop := (fs = [] ∧ H e = some (exo e C none)) ∨ ∃ d, H e = some (exo e C (some d)) ∧ H d = some (exd d fs)
theorem ErrAt.same {H H' : Hp} {e C : Addr} {fs : List (Str × V)} (h : ErrAt H e C fs) (k : Same H H') : ErrAt H' e C fs := by
  rcases h with ⟨rfl, a⟩ | ⟨d, a, b⟩
  · exact .inl ⟨rfl, k _ _ a⟩
  · exact .inr ⟨d, k _ _ a, k _ _ b⟩
theorem ErrAt.inst {X : Cx} {pins : List (Addr × Obj)} {σ : L2.St} {H : Hp} {s : Shared} {e C : Addr} {fs : List (Str × V)} (I : Inv X pins σ H s) (h : ErrAt H e C fs) : ∃ ox od, PySem.W.InstAt s.heap e ox C od ∧ ∀ f v, fs.lookup f = some v → ∃ u oD, od = some oD ∧ RelV v u ∧ PySem.W.lookIn f oD = some (some u) := by
  rcases h with ⟨rfl, a⟩ | ⟨d, a, b⟩
  · obtain ⟨t, ho⟩ := exo_at I.hok a
    exact ⟨_, none, ⟨ho, rfl, rfl, trivial⟩, fun f v z => nomatch z⟩
  · obtain ⟨t, ho⟩ := exo_at I.hok a
    obtain ⟨mA, hns, hr⟩ := exd_at I.hok b
    obtain ⟨oD, hD, hl⟩ := lookIn_ns hns
    refine ⟨_, some oD, ⟨ho, rfl, rfl, hD⟩, fun f v z => ?_⟩
    obtain ⟨u, hu, ru⟩ := RelO.some_of (v := v) (o := mA f) (by rw [← z]; exact hr f)
    exact ⟨u, oD, rfl, ru, by rw [hl, hu]⟩
def tErrFld (K : PySem.W.Frag) (te : TE) (f : Str) : TE := fun σ H Q => te σ H fun x H1 => ∃ (a C : Addr) (b : EB) (fs : List (Str × V)) (v : V), x = .ref a ∧ XC K C b ∧ PySem.W.findIn K (.ref C) f = some none ∧ ErrAt H1 a C fs ∧ fs.lookup f = some v ∧ Q v H1
theorem pe_errfld {X : Cx} {e : Expr} {te : TE} {f : Str} {pos : Pos} (he : PE X e te) (hb : attributeBase e f X.env (eval e X.env) = eval e X.env := by rfl) : PE X (.Attribute e f pos) (tErrFld X.K te f) := by
  constructor
  intro pins s σ H Q I h
  refine attr_of hb (thn (he.run pins s σ H _ I h) ?_)
  rintro u s1 ⟨x, H1, I1, rx, a, C, b, fs, v, rfl, T, no, ea, l, q⟩
  cases (show u = Value.ref a from rx)
  obtain ⟨ox, od, J, look⟩ := ea.inst I1
  obtain ⟨u, oD, rfl, ru, hl⟩ := look f v l
  obtain ⟨cd, hcl, _, hd⟩ := T.data
  have hdct : PySem.W.hasDictIn X.K C = true := by
    unfold PySem.W.hasDictIn
    rw [hcl]
    exact hd
  exact HandSPX.exc_get I1.kIn J T.ga T.gg T.exB (PySem.W.findObj_own hdct no rfl hl) (handed_of ru) ⟨v, H1, I1.tok _, ru, q⟩
def rErrIs (K : PySem.W.Frag) : List V → Hp → VK → Prop := fun xs H Q => ∃ (a C : Addr) (b : EB) (fs : List (Str × V)) (c : V) (cv : Value) (k : Bool), xs = [.ref a, c] ∧ XC K C b ∧ ErrAt H a C fs ∧ ClsV c cv ∧ PySem.W.kitOne K (.ref C) cv = some k ∧ Q (.bl k) H
theorem call_errIs {X : Cx} (hn : PySem.W.specialIn X.K (.builtin "object.__class__") "__get__" = some (some (.builtin "getset_descriptor.__get__"))) (ht : PySem.W.takesIn X.K (.builtin "object.__class__") = some true) : CallR X (.builtin "isinstance") (rErrIs X.K) := by
  intro pins s σ H xs us Q I r h
  obtain ⟨a, C, b, fs, c, cv, k, rfl, T, ea, hc, e, q⟩ := h
  obtain ⟨u1, u2, rfl, r1, r2⟩ := vals2 r
  cases (show u1 = Value.ref a from r1)
  cases hc.eq r2
  obtain ⟨ox, od, J, _⟩ := ea.inst I
  obtain ⟨cd, hcl, _, _⟩ := T.data
  exact PySem.W.kia_one (PySem.W.kitx_exc (by rw [hcl]; rfl) T.ga T.gg T.exB T.kl hn ht T.ob) I.kIn J e (fun z => nomatch z) fun tk => ⟨.bl k, H, I.tok tk, rfl, q⟩
end GL
set_option maxHeartbeats 4000000
namespace GL
open PySem PySem.Spec PyProof.Rows L2
theorem PE.imp {X : Cx} {e : Expr} {t t' : TE} (h : PE X e t) (k : ∀ σ H Q, t' σ H Q → t σ H Q) : PE X e t' := ⟨fun pins s σ H Q I q => h.run pins s σ H Q I (k σ H Q q)⟩
theorem PA.imp {X : Cx} {es : List Expr} {t t' : TA} (h : PA X es t) (k : ∀ σ H Q, t' σ H Q → t σ H Q) : PA X es t' := ⟨fun pos pins s σ H Q I q => h.run pos pins s σ H Q I (k σ H Q q)⟩
theorem fun_of {K : PySem.W.Frag} {x q : Str} {st : Stmt} {kws : List (Str × V)} {f : Addr} {fd : FuncData} (F : FunD K x q (defArgs st) (defBody st) (defScope st) [] kws f fd) : L2.Fun K x q st f fd := by
  obtain ⟨⟨oc, od, dV, kV, doc, pm, an, cdv, ct, osl, e, lk, hcd, hD, hK⟩, kp⟩ := F
  rcases hD with ⟨_, rfl⟩ | ⟨z, _⟩
  · exact ⟨⟨oc, od, kV, doc, pm, an, cdv, ct, osl, e, lk, hcd⟩, kp⟩
  · exact absurd rfl z
/-- C(k = v, ..) of an error: its parameters' values are all, by the keywords' -/
def tErrK (C : Addr) (sp : Sp) (g : List V → List V) (t : TA) : TE := fun σ H Q => t σ H fun zs H1 => ∀ a, H1 a = none → sp (.ref a :: g zs) (upd H1 a (exo a C none)) (fun v H2 => v = .non ∧ Q (.ref a) H2) E0
section
variable {X : Cx} {p pos : Pos} {kws : List Keyword} {tk : TA} {x : Str} {C fI : Addr} {b : EB} {k : Nat} {fd : FuncData} {ps ks : List Str} {sp : Sp}
theorem pe_errK {gV : List V → List V} {gU : List Value → List Value} (T : XC X.K C b) (iC : PySem.W.findIn X.K (.ref C) "__init__" = some (some (.ref fI))) (tI : PySem.W.typeIn X.K (.ref fI) = some (.type "function")) (F1 : FnOk X.prog X.w X.K X.mg X.base CX0 k fI fd ps sp)
    (hr : Room (k + 1) X.A) (hb : ∀ (s : Shared) (z : Value) (us : List Value), us.length = ks.length → BindsTo s fd ⟨[z], ks.zip us⟩ (ps.zip (z :: gU us))) (hg : Gl X x) (hm : X.mg x = some (.ref C)) (hkw : PK X kws tk)
    (hrel : ∀ {zs : List V} {us : List Value}, Vals zs us → Vals (gV zs) (gU us)) (hlen : ∀ {σ : L2.St} {H : Hp} {Q : List V → Hp → Prop}, tk σ H Q → tk σ H fun zs H' => zs.length = ks.length ∧ Q zs H')
    (hall : (backToKw pos (keywordEach kws X.env)).all (·.1.isSome) = true := by rfl) (hks : (backToKw pos (keywordEach kws X.env)).filterMap (·.1) = ks := by rfl) (hdb : (x == ("__debug__" : Str)) = false := by decide)
    (hpl : ((backTo pos (starEach [] X.env)).any (·.1) || (backToKw pos (keywordEach kws X.env)).any (·.1.isNone)) = false := by rfl) :
    PE X (.Call (.Name x p) [] kws pos) (tErrK C sp gV tk) := by
  constructor
  intro pins s σ H Q I h
  apply wpAny_Call_Name_kw
  refine ld_glob I hg hm ?_ hdb
  refine PySem.W.callWith_KW0 (h₀ := X.base) I.ok.mod.kin T.keep hall ?_ hpl
  refine thn (hkw.run pos pins s σ H _ I (hlen h)) ?_
  rintro ws s2 ⟨zs, H2, I2, rz, lz, q⟩
  refine ⟨I2.kIn, ?_⟩
  rw [hks]
  exact run_err (us := []) T iC tI F1 hr (fun s' z _ => hb s' z ws (by rw [← Paired.length rz]; exact lz)) (Nat.zero_le _) I2 (hrel rz) q
end
/-- C() of an error class without an __init__ of its own -/
theorem pe_err0 {X : Cx} {C : Addr} {b : EB} {x : Str} {p pos : Pos} (q : PySem.W.excIn X.K C b.tail b.new = true) (gC : X.mg x = some (.ref C)) (kC : PySem.W.keepIn X.K (.ref C) = true) (hg : Gl X x) (hdb : (x == ("__debug__" : Str)) = false := by decide) :
    PE X (.Call (.Name x p) [] [] pos) (fun σ H Q => ∀ a, H a = none → Q (.ref a) (upd H a (exo a C none))) := by
  constructor
  intro pins s σ H Q I h
  apply wpAny_Call_Name_kw
  refine ld_glob I hg gC ?_ hdb
  apply PySem.W.callWith_K0 I.kIn kC
  obtain ⟨i, FB⟩ := b.base
  rcases s with ⟨hp, g, d, t, os⟩
  obtain ⟨bm, N, nm, qn, bs, hdct, sn, sub, ab, col, dd, k0, k1, k2, k3, k5, mN, hC, hN, hni, T⟩ := exc_obj I.kIn q
  refine wpAny_call_exc_subT FB T hC hN hni (fun h' a hm => ?_) (by show 0 ≤ sizeLine; exact Nat.zero_le _)
  have hn : H a = none := I.hok.gone hm.new
  obtain ⟨t, ht, _, _⟩ := hm.there
  exact ⟨.ref a, upd H a (exo a C none), I.laidN hm.keeps hm.new hn (exo_ok ht), rfl, h a hn⟩

/-! ### an __init__ that stores its parameters -/
def spInit (C : Addr) (fl : List Str) : Sp := fun vs H Q _ => ∃ (a : Addr) (ys : List V), vs = .ref a :: ys ∧ ys.length = fl.length ∧ H a = some (exo a C none) ∧
  ∀ dx H', H dx = none → dx ≠ a → H' a = some (exo a C (some dx)) → H' dx = some (exd dx (fl.zip ys).reverse) → (∀ b o, H b = some o → b ≠ a → H' b = some o) → Q .non H'
section
variable {P : Program} {w : World} {K : PySem.W.Frag} {mg : Str → Option Value} {base : Heap} {st : Stmt} {qual f1 f2 f3 : Str} {C fI : Addr} {b : EB} {fd : FuncData} {q1 q2 q3 q4 r1 r2 r3 r4 z1 z2 z3 z4 : Pos}
theorem swap_name {n : Str} {pp : Pos} {o : Option Expr} {l : Nat} {env : Env} : swapsWith (.Name n pp) o l env = pure false := by rfl
theorem ok_init1 (F : L2.Fun K "__init__" qual st fI fd) (T : XC K C b) (n1 : PySem.W.findIn K (.ref C) f1 = some none) (hb : defBody st = [.Assign [.Attribute (.Name "self" q1) f1 q2] (.Name f1 q3) q4])
    (S : FnScope ["self", f1] ["self", f1] (defScope st)) (v0 : (defScope st).names.lookup ("self" : Str) = some .local) (v1 : (defScope st).names.lookup f1 = some .local) (d1 : (f1 == ("__debug__" : Str)) = false) (c1 : (f1 == ("__classdict__" : Str)) = false) :
    FnOk P w K mg base CX0 1 fI fd ["self", f1] (spInit C [f1]) := by
  refine F.ok S (fun vs H Q E h => ?_) (fun cdv A outer s H vs Q E hr h => ?_)
  · obtain ⟨a, ys, rfl, l, _⟩ := h
    exact congrArg Nat.succ l
  · obtain ⟨a, ys, rfl, l, ha, k⟩ := h
    rw [hb]
    match ys, l with
    | [y], _ =>
      refine ⟨_, pss_one (ps_put (pe_var (i := 0) rfl (.inl v0)) (pe_var (i := 1) rfl (.inl v1) d1 c1) swap_name), ?_⟩
      refine ⟨y, rfl, .ref a, rfl, a, C, b, rfl, T, n1, .inl ⟨ha, fun dx hd hne => ?_⟩⟩
      exact k dx _ hd hne upd_same (by rw [upd_ne hne]; exact upd_same) fun c o e hc => by rw [upd_ne hc, upd_ne (ne_of_none e hd)]; exact e
theorem ok_init2 (F : L2.Fun K "__init__" qual st fI fd) (T : XC K C b) (n1 : PySem.W.findIn K (.ref C) f1 = some none) (n2 : PySem.W.findIn K (.ref C) f2 = some none)
    (hb : defBody st = [.Assign [.Attribute (.Name "self" q1) f1 q2] (.Name f1 q3) q4, .Assign [.Attribute (.Name "self" r1) f2 r2] (.Name f2 r3) r4])
    (S : FnScope ["self", f1, f2] ["self", f1, f2] (defScope st)) (v0 : (defScope st).names.lookup ("self" : Str) = some .local) (v1 : (defScope st).names.lookup f1 = some .local) (v2 : (defScope st).names.lookup f2 = some .local)
    (d1 : (f1 == ("__debug__" : Str)) = false) (c1 : (f1 == ("__classdict__" : Str)) = false) (d2 : (f2 == ("__debug__" : Str)) = false) (c2 : (f2 == ("__classdict__" : Str)) = false) :
    FnOk P w K mg base CX0 1 fI fd ["self", f1, f2] (spInit C [f1, f2]) := by
  refine F.ok S (fun vs H Q E h => ?_) (fun cdv A outer s H vs Q E hr h => ?_)
  · obtain ⟨a, ys, rfl, l, _⟩ := h
    exact congrArg Nat.succ l
  · obtain ⟨a, ys, rfl, l, ha, k⟩ := h
    rw [hb]
    match ys, l with
    | [y, z], _ =>
      refine ⟨_, pss_cons (ps_put (pe_var (i := 0) rfl (.inl v0)) (pe_var (i := 1) rfl (.inl v1) d1 c1) swap_name) (pss_one (ps_put (pe_var (i := 0) rfl (.inl v0)) (pe_var (i := 2) rfl (.inl v2) d2 c2) swap_name)), ?_⟩
      refine ⟨y, rfl, .ref a, rfl, a, C, b, rfl, T, n1, .inl ⟨ha, fun dx hd hne => ?_⟩⟩
      refine ⟨z, rfl, .ref a, rfl, a, C, b, rfl, T, n2, .inr ⟨dx, _, upd_same, (by rw [upd_ne hne]; exact upd_same), (by show 1 ≤ 900; decide), ?_⟩⟩
      exact k dx _ hd hne (by rw [upd_ne hne.symm]; exact upd_same) upd_same fun c o e hc => by rw [upd_ne (ne_of_none e hd), upd_ne hc, upd_ne (ne_of_none e hd)]; exact e
theorem ok_init3 (F : L2.Fun K "__init__" qual st fI fd) (T : XC K C b) (n1 : PySem.W.findIn K (.ref C) f1 = some none) (n2 : PySem.W.findIn K (.ref C) f2 = some none) (n3 : PySem.W.findIn K (.ref C) f3 = some none)
    (hb : defBody st = [.Assign [.Attribute (.Name "self" q1) f1 q2] (.Name f1 q3) q4, .Assign [.Attribute (.Name "self" r1) f2 r2] (.Name f2 r3) r4, .Assign [.Attribute (.Name "self" z1) f3 z2] (.Name f3 z3) z4])
    (S : FnScope ["self", f1, f2, f3] ["self", f1, f2, f3] (defScope st)) (v0 : (defScope st).names.lookup ("self" : Str) = some .local) (v1 : (defScope st).names.lookup f1 = some .local) (v2 : (defScope st).names.lookup f2 = some .local) (v3 : (defScope st).names.lookup f3 = some .local)
    (d1 : (f1 == ("__debug__" : Str)) = false) (c1 : (f1 == ("__classdict__" : Str)) = false) (d2 : (f2 == ("__debug__" : Str)) = false) (c2 : (f2 == ("__classdict__" : Str)) = false) (d3 : (f3 == ("__debug__" : Str)) = false) (c3 : (f3 == ("__classdict__" : Str)) = false) :
    FnOk P w K mg base CX0 1 fI fd ["self", f1, f2, f3] (spInit C [f1, f2, f3]) := by
  refine F.ok S (fun vs H Q E h => ?_) (fun cdv A outer s H vs Q E hr h => ?_)
  · obtain ⟨a, ys, rfl, l, _⟩ := h
    exact congrArg Nat.succ l
  · obtain ⟨a, ys, rfl, l, ha, k⟩ := h
    rw [hb]
    match ys, l with
    | [y, z, u], _ =>
      refine ⟨_, pss_cons (ps_put (pe_var (i := 0) rfl (.inl v0)) (pe_var (i := 1) rfl (.inl v1) d1 c1) swap_name) (pss_cons (ps_put (pe_var (i := 0) rfl (.inl v0)) (pe_var (i := 2) rfl (.inl v2) d2 c2) swap_name)
        (pss_one (ps_put (pe_var (i := 0) rfl (.inl v0)) (pe_var (i := 3) rfl (.inl v3) d3 c3) swap_name))), ?_⟩
      refine ⟨y, rfl, .ref a, rfl, a, C, b, rfl, T, n1, .inl ⟨ha, fun dx hd hne => ?_⟩⟩
      refine ⟨z, rfl, .ref a, rfl, a, C, b, rfl, T, n2, .inr ⟨dx, _, upd_same, (by rw [upd_ne hne]; exact upd_same), (by show 1 ≤ 900; decide), ?_⟩⟩
      refine ⟨u, rfl, .ref a, rfl, a, C, b, rfl, T, n3, .inr ⟨dx, _, (by rw [upd_ne hne.symm]; exact upd_same), upd_same, (by show 2 ≤ 900; decide), ?_⟩⟩
      exact k dx _ hd hne (by rw [upd_ne hne.symm, upd_ne hne.symm]; exact upd_same) upd_same fun c o e hc => by rw [upd_ne (ne_of_none e hd), upd_ne (ne_of_none e hd), upd_ne hc, upd_ne (ne_of_none e hd)]; exact e
end
/-- an error made, told in whole: what was tracked stands, its fields are as its __init__ stores them -/
theorem init_made {C : Addr} {fl : List Str} {H1 : Hp} {Q : VK} {x : Addr} {ys : List V} (hx : H1 x = none) (hl : ys.length = fl.length) (q : ∀ (e : Addr) (H' : Hp), Same H1 H' → H1 e = none → ErrAt H' e C (fl.zip ys).reverse → Q (.ref e) H') :
    spInit C fl (.ref x :: ys) (upd H1 x (exo x C none)) (fun v H2 => v = .non ∧ Q (.ref x) H2) E0 := by
  refine ⟨x, ys, rfl, hl, upd_same, fun dx H' hd hne ha hdx kp => ⟨rfl, q x H' (fun b o e => ?_) hx (.inr ⟨dx, ha, hdx⟩)⟩⟩
  have hb : b ≠ x := ne_of_none e hx
  exact kp b o (by rw [upd_ne hb]; exact e) hb
end GL
set_option maxHeartbeats 4000000
namespace GL
open PySem PySem.Spec PyProof.Rows L2
theorem same_sqT {K : PySem.W.Frag} {H H' : Hp} {a : Addr} {xs : List V} (e : Same H H') (h : SqT K H a xs) : SqT K H' a xs := by
  rcases h with (h | ⟨o, h⟩) | h
  · exact .inl (.inl (e _ _ h))
  · exact .inl (.inr ⟨o, e _ _ h⟩)
  · exact .inr h
mutual
theorem Dq.same {K : PySem.W.Frag} {H H' : Hp} (e : Same H H') : ∀ {v : V} {d : PyData}, Dq K H v d → Dq K H' v d
  | _, _, .non => .non
  | _, _, .bl b => .bl b
  | _, _, .int i => .int i
  | _, _, .str x => .str x
  | _, _, .lst h a => .lst (e.seq h) (DqAll.same e a)
  | _, _, .tup h a => .tup (same_sqT e h) (DqAll.same e a)
  | _, _, .dct h a => .dct (e _ _ h) (DqKv.same e a)
theorem DqAll.same {K : PySem.W.Frag} {H H' : Hp} (e : Same H H') : ∀ {vs : List V} {ds : List PyData}, DqAll K H vs ds → DqAll K H' vs ds
  | _, _, .nil => .nil
  | _, _, .cons a b => .cons (Dq.same e a) (DqAll.same e b)
theorem DqKv.same {K : PySem.W.Frag} {H H' : Hp} (e : Same H H') : ∀ {kvs : List (Key × V)} {ps : List (PyData × PyData)}, DqKv K H kvs ps → DqKv K H' kvs ps
  | _, _, .nil => .nil
  | _, _, .consI a b => .consI (Dq.same e a) (DqKv.same e b)
  | _, _, .consS a b => .consS (Dq.same e a) (DqKv.same e b)
end
theorem paired_rev {α β : Type} {R : α → β → Prop} : ∀ {xs : List α} {ys : List β}, Paired R xs ys → Paired R xs.reverse ys.reverse := by
  have app : ∀ {xs us : List α} {ys ws : List β}, Paired R xs ys → Paired R us ws → Paired R (xs ++ us) (ys ++ ws) := by
    intro xs us ys ws h k
    induction h with
    | nil => exact k
    | cons r _ ih => exact .cons r ih
  intro xs ys h
  induction h with
  | nil => exact .nil
  | cons r _ ih =>
    rw [List.reverse_cons, List.reverse_cons]
    exact app ih (.cons r .nil)
theorem same_new {H : Hp} {p : Addr} {o : HO} (h : H p = none) : Same H (upd H p o) := fun b u e => by
  rw [upd_ne (ne_of_none e h)]
  exact e
theorem del_le {H : Hp} {p : Addr} : Same (del H p) H := fun b o e => by
  by_cases h : b = p
  · rw [h, del_same] at e
    cases e
  · rwa [del_ne h] at e
theorem del_but {H H' : Hp} {p : Addr} (k : ∀ b o, H b = some o → b ≠ p → H' b = some o) : Same (del H p) (del H' p) := fun b o e => by
  by_cases h : b = p
  · rw [h, del_same] at e
    cases e
  · rw [del_ne h] at e ⊢
    exact k b o e h
/-! ### a list comprehension whose element leaves what was tracked as it was -/
theorem take_ext {α : Type} : ∀ {l : List α} {i : Nat} {x : α}, l[i]? = some x → l.take (i + 1) = l.take i ++ [x]
  | a :: l, 0, x, h => by
    cases Option.some.inj h
    rfl
  | a :: l, i + 1, x, h => by
    have ih := take_ext (l := l) (i := i) (x := x) (by simpa using h)
    rw [List.take_succ_cons, ih, List.take_succ_cons]
    rfl
section
variable {K : PySem.W.Frag} {te : TE} {σ : L2.St} {j : Nat} {H1 : Hp} {D a : Addr} {xs : List V} {val : V → V} {Qd : Hp → Prop}
theorem lc_same (hS : SqL K H1 a xs) (hD : H1 D = none) (hl : xs.length < 1000000) (hw : ∀ x, wipe ((wipe σ [j]).set j (some x)) [j] = wipe σ [j])
    (hs : ∀ (i : Nat) (x : V) (H' : Hp) (Q : VK), xs[i]? = some x → Same H1 H' → (∀ H2, Same H' H2 → Q (val x) H2) → te ((wipe σ [j]).set j (some x)) H' Q) (hd : ∀ H', Same H1 H' → H' D = some (.lst (xs.map val)) → Qd H') :
    ∃ W : Nat → Nat → Hp → Prop, (∃ m, W 0 m (upd H1 D (.lst []))) ∧ ∀ i m H, W i m H →
      ((Itl K a).stop i H ∧ Qd H) ∨ ((Itl K a).go i H ∧ ∃ Nx : Hp → Prop, (∀ H', Nx H' → ∃ m', m' < m ∧ W (i + 1) m' H') ∧ ∀ x H', (Itl K a).yld i H x H' → gName j x (wipe σ [j]) H' fun σ2 H2 => wipe σ2 [j] = wipe σ [j] ∧ tYes σ2 H2 fun b H3 =>
        if b = true then te σ2 H3 fun y H4 => ∃ acc, H4 D = some (.lst acc) ∧ acc.length < sizeLine ∧ Nx (upd H4 D (.lst (acc ++ [y]))) else Nx H3) := by
  refine lc_list (K := K) (a := a) (xs := xs) (fun i H => H D = some (.lst ((xs.take i).map val)) ∧ Same H1 H) ⟨upd_same, same_new hD⟩ (fun i H _ ⟨_, s⟩ => s.seq hS) ?_ ?_
  · rintro i x H hi ⟨hd', s⟩
    refine ⟨hw x, ?_⟩
    show te (List.set (wipe σ [j]) j (some x)) H (fun y H4 => ∃ acc, H4 D = some (.lst acc) ∧ acc.length < sizeLine ∧ (upd H4 D (.lst (acc ++ [y])) D = some (.lst ((xs.take (i + 1)).map val)) ∧ Same H1 (upd H4 D (.lst (acc ++ [y])))))
    refine hs i x H _ hi s fun H2 s2 => ⟨_, s2 _ _ hd', ?_, ?_, fun b o e => ?_⟩
    · rw [List.length_map, List.length_take, sizeLine_eq]
      omega
    · rw [take_ext hi, List.map_append, upd_same]
      rfl
    · rw [upd_ne (ne_of_none e hD)]
      exact s2 _ _ (s _ _ e)
  · rintro H ⟨hd', s⟩
    rw [List.take_length] at hd'
    exact hd H s hd'
theorem lc_sameR {lo : Int} {n : Nat} {val : Int → V} (hD : H1 D = none) (hl : n < 1000000) (hw : ∀ x, wipe ((wipe σ [j]).set j (some x)) [j] = wipe σ [j])
    (hs : ∀ (i : Nat) (H' : Hp) (Q : VK), i < n → Same H1 H' → (∀ H2, Same H' H2 → Q (val (lo + i)) H2) → te ((wipe σ [j]).set j (some (.int (lo + i)))) H' Q) (hd : ∀ H', Same H1 H' → H' D = some (.lst ((List.range n).map fun i => val (lo + (i : Nat)))) → Qd H') :
    ∃ W : Nat → Nat → Hp → Prop, (∃ m, W 0 m (upd H1 D (.lst []))) ∧ ∀ i m H, W i m H →
      ((Itr lo n).stop i H ∧ Qd H) ∨ ((Itr lo n).go i H ∧ ∃ Nx : Hp → Prop, (∀ H', Nx H' → ∃ m', m' < m ∧ W (i + 1) m' H') ∧ ∀ x H', (Itr lo n).yld i H x H' → gName j x (wipe σ [j]) H' fun σ2 H2 => wipe σ2 [j] = wipe σ [j] ∧ tYes σ2 H2 fun b H3 =>
        if b = true then te σ2 H3 fun y H4 => ∃ acc, H4 D = some (.lst acc) ∧ acc.length < sizeLine ∧ Nx (upd H4 D (.lst (acc ++ [y]))) else Nx H3) := by
  refine lc_range (lo := lo) (n := n) (fun i H => H D = some (.lst ((List.range i).map fun i => val (lo + (i : Nat)))) ∧ Same H1 H) ⟨upd_same, same_new hD⟩ ?_ ?_
  · rintro i H hi ⟨hd', s⟩
    refine ⟨hw _, ?_⟩
    show te (List.set (wipe σ [j]) j (some (V.int (lo + i)))) H (fun y H4 => ∃ acc, H4 D = some (.lst acc) ∧ acc.length < sizeLine ∧ (upd H4 D (.lst (acc ++ [y])) D = some (.lst ((List.range (i + 1)).map fun i => val (lo + (i : Nat)))) ∧ Same H1 (upd H4 D (.lst (acc ++ [y])))))
    refine hs i H _ hi s fun H2 s2 => ⟨_, s2 _ _ hd', ?_, ?_, fun b o e => ?_⟩
    · rw [List.length_map, List.length_range, sizeLine_eq]
      omega
    · rw [List.range_succ, List.map_append, upd_same]
      rfl
    · rw [upd_ne (ne_of_none e hD)]
      exact s2 _ _ (s _ _ e)
  · rintro H ⟨hd', s⟩
    exact hd H s hd'
end
end GL
set_option maxHeartbeats 4000000
/-! Own operators of own instances. -/
namespace PySem
namespace GO
open PySem.W PySem.Calls PyProof.Rows PySem.HandSPX Builtin
section
variable {prog : Program} {w : World} {A : Around} {E : Value → Shared → Prop} {hp : Heap} {g : Array GenState} {d : Drawn} {t : Nat} {os : OsState} {K : W.Frag} {x y C f : Addr} {ox oy : Obj} {od oe : Option Obj} {b : Value} {op : Operator} {Q : Value → Shared → Prop} {cd : ClassData} {rest : List Value}
def Held (p : Prop) : Prop := p
/-- a method of an own class, tried -/
theorem try_own {nm : Str} {Q : Option Value → Shared → Prop} (X : K.In hp) (I : InstAt hp x ox C od) (hf : findIn K (.ref C) nm = some (some (.ref f))) (tf : typeIn K (.ref f) = some (.type "function"))
    (h : Held (wpAny (model prog w) A (call (.ref f) [.ref x, b]) (W.CmpBack fun v => Q (some v)) E ⟨hp, g, d, t, os⟩)) : wpAny (model prog w) A (tryMethod (.ref x) nm b) Q E ⟨hp, g, d, t, os⟩ := by
  unfold tryMethod
  apply wpAny_bind
  refine special_fn (s := ⟨hp, g, d, t, os⟩) X I hf tf (wpAny_mono h (fun v s' z => ?_) fun _ _ z => z)
  cases v <;> first | exact wpAny_pure z | exact z.elim
/-- a + b, both of one class -/
theorem bin_same (X : K.In hp) (I : InstAt hp x ox C od) (J : InstAt hp y oy C oe) (hcd : clsIn K C = some cd) (hm : cd.mro = .ref C :: rest) (hf : findIn K (.ref C) (dunder op.info.2) = some (some (.ref f))) (tf : typeIn K (.ref f) = some (.type "function"))
    (h : wpAny (model prog w) A (call (.ref f) [.ref x, .ref y]) (W.CmpBack Q) E ⟨hp, g, d, t, os⟩) : wpAny (model prog w) A (binaryOp op (.ref x) (.ref y)) Q E ⟨hp, g, d, t, os⟩ := by
  have left := fills_K (M := model prog w) (nm := op.info.2) X hcd hm hf
  unfold binaryOp
  generalize op.info = z at *
  obtain ⟨sym, nm⟩ := z
  apply wpAny_holding
  unfold binaryOp1
  apply wpAny_bind
  apply wpAny_bind
  apply I.type.at
  apply wpAny_bind
  apply J.type.at
  apply wpAny_bind
  apply left.at
  dsimp only
  rw [if_pos (beq_self_eq_true _)]
  repeat (first | with_reducible refine try_own X I hf tf ?_ | wp_step)
  refine wpAny_mono h (fun v s' z => ?_) fun _ _ z => z
  cases v <;> first | exact wpAny_pure (wpAny_pure z) | exact z.elim
/-- a + n, n a whole number -/
theorem bin_int {n : Int} {k : Tok} {ia ir : String} (X : K.In hp) (I : InstAt hp x ox C od) (hcd : clsIn K C = some cd) (hm : cd.mro = .ref C :: rest) (hf : findIn K (.ref C) (dunder op.info.2) = some (some (.ref f))) (hr : findIn K (.ref C) (dunderR op.info.2) = some none) (tf : typeIn K (.ref f) = some (.type "function"))
    (fa : findIn K (.type "int") (dunder op.info.2) = some (some (.builtin ia))) (fr : findIn K (.type "int") (dunderR op.info.2) = some (some (.builtin ir))) (sq : isSeqSlot (some (.builtin ia)) = false) (sub : subIn K (.type "int") (.ref C) = some false)
    (h : wpAny (model prog w) A (call (.ref f) [.ref x, .int n k]) (W.CmpBack Q) E ⟨hp, g, d, t, os⟩) : wpAny (model prog w) A (binaryOp op (.ref x) (.int n k)) Q E ⟨hp, g, d, t, os⟩ := by
  have left := fills_K (M := model prog w) (nm := op.info.2) X hcd hm hf
  have l1 := looks_findIn (M := model prog w) X hf
  have l2 := looks_findIn (M := model prog w) X hr
  have l3 := looks_findIn (M := model prog w) X fa
  have l4 := looks_findIn (M := model prog w) X fr
  have l5 := looks_subIn (M := model prog w) X sub
  unfold binaryOp
  generalize op.info = z at *
  obtain ⟨sym, nm⟩ := z
  apply wpAny_holding
  unfold binaryOp1 numberSlotInPython fillsNumberSlot
  apply wpAny_bind
  apply wpAny_bind
  apply I.type.at
  apply wpAny_bind
  apply wpAny_pure
  apply wpAny_bind
  apply left.at
  repeat (first | with_reducible refine try_own X I hf tf ?_ | with_reducible refine l1.at ?_ | with_reducible refine l2.at ?_ | with_reducible refine l3.at ?_ | with_reducible refine l4.at ?_ | with_reducible refine l5.at ?_ | wp_step)
  refine wpAny_mono h (fun v s' z => ?_) fun _ _ z => z
  cases v <;> first | exact wpAny_pure (wpAny_pure z) | exact z.elim
/-- -a -/
theorem neg_own (X : K.In hp) (I : InstAt hp x ox C od) (hf : findIn K (.ref C) "__neg__" = some (some (.ref f))) (tf : typeIn K (.ref f) = some (.type "function"))
    (h : wpAny (model prog w) A (call (.ref f) [.ref x]) Q E ⟨hp, g, d, t, os⟩) : wpAny (model prog w) A (unaryOp .USub (.ref x)) Q E ⟨hp, g, d, t, os⟩ := by
  unfold unaryOp
  apply wpAny_holding
  dsimp only
  rw [if_neg (by decide)]
  apply wpAny_bind
  exact special_fn (s := ⟨hp, g, d, t, os⟩) X I hf tf (wpAny_mono h (fun v s' z => wpAny_pure z) fun _ _ z => z)
end
end GO
end PySem
set_option maxHeartbeats 4000000
namespace PySem
namespace GO
open PySem.W PySem.Calls PyProof.Rows PySem.HandSPX Builtin
section
variable {prog : Program} {w : World} {A : Around} {E : Value → Shared → Prop} {hp : Heap} {g : Array GenState} {d : Drawn} {t : Nat} {os : OsState} {K : W.Frag} {x y C f : Addr} {ox oy : Obj} {od oe : Option Obj} {b tb : Value} {Q : Value → Shared → Prop}
theorem ifb {fv : Value} {nm : Str} {Q : Option Value → Shared → Prop} (X : K.In hp) (I : InstAt hp x ox C od) (hf : findIn K (.ref C) nm = some (some fv)) (hb : Looks (model prog w) hp (bindSpecial fv (.ref x)) (fv, [.ref x]))
    (h : wpAny (model prog w) A (call fv [.ref x, b]) (fun v => Q (some v)) E ⟨hp, g, d, t, os⟩) : wpAny (model prog w) A (callSpecialIfBound? (.ref x) nm [b]) Q E ⟨hp, g, d, t, os⟩ := by
  have l1 := looks_findIn (M := model prog w) X hf
  unfold callSpecialIfBound? bindSpecialIfBound? specialOf
  apply wpAny_holding
  apply wpAny_bind
  apply wpAny_bind
  apply wpAny_bind
  apply I.type.at
  apply l1.at
  dsimp only
  apply wpAny_bind
  refine wpAny_askSetting ?_
  have go : ∀ {E' : Value → Shared → Prop}, wpAny (model prog w) A (do let z ← bindSpecial fv (.ref x); pure (some z)) (fun a s' => wpAny (model prog w) A (match a with
        | some (g, first) => do
          let z ← call g (first ++ [b])
          pure (some z)
        | x => pure none) Q E s') E' ⟨hp, g, d, t, os⟩ := by
    intro E'
    apply wpAny_bind
    apply hb.at
    apply wpAny_pure
    dsimp only [List.cons_append, List.nil_append]
    apply wpAny_bind
    exact wpAny_mono h (fun v s' z => wpAny_pure z) fun _ _ z => z
  split
  · exact go
  · exact wpAny_tryCatch go
theorem try_c {fv : Value} {nm : Str} {Q : Option Value → Shared → Prop} (X : K.In hp) (I : InstAt hp x ox C od) (hf : findIn K (.ref C) nm = some (some fv)) (hb : Looks (model prog w) hp (bindSpecial fv (.ref x)) (fv, [.ref x]))
    (h : wpAny (model prog w) A (call fv [.ref x, b]) (W.CmpBack fun v => Q (some v)) E ⟨hp, g, d, t, os⟩) : wpAny (model prog w) A (tryCompare (.ref x) nm b) Q E ⟨hp, g, d, t, os⟩ := by
  unfold tryCompare
  apply wpAny_bind
  refine ifb X I hf hb (wpAny_mono h (fun v s' z => ?_) fun _ _ z => z)
  cases v <;> first | exact wpAny_pure z | exact z.elim
/-- a == b, a != b, by the class's method of this name -/
theorem cmp_any {op : CmpOp} {fv : Value} (hop : op = .Eq ∨ op = .NotEq) (hu : A.units < cLine) (X : K.In hp) (I : InstAt hp x ox C od) (hb : Looks (model prog w) hp (typeOf b) tb) (nf : notFirst K C tb = true) (he : findIn K (.ref C) (cmpInfo op).2.1 = some (some fv))
    (hbi : Looks (model prog w) hp (bindSpecial fv (.ref x)) (fv, [.ref x]))
    (h : wpAny (model prog w) A (call fv [.ref x, b]) (W.CmpBack Q) E ⟨hp, g, d, t, os⟩) : wpAny (model prog w) A (richCompare op (.ref x) b) Q E ⟨hp, g, d, t, os⟩ := by
  have no : oneThing? op (.ref x) b = none := by rcases hop with rfl | rfl <;> rfl
  unfold richCompare
  apply wpAny_holding
  apply wpAny_bind
  refine wpAny_cRoomFor hu ?_
  rw [no]
  dsimp only
  generalize hi : cmpInfo op = z at *
  obtain ⟨sym, nf', nr⟩ := z
  apply wpAny_bind
  apply I.type.at
  apply wpAny_bind
  apply hb.at
  unfold notFirst at nf
  have go : wpAny (model prog w) A (tryCompare (.ref x) nf' b) (fun o s' => o.isSome = true ∧ ∀ v, o = some v → Q v s') E ⟨hp, g, d, t, os⟩ := by
    refine try_c X I he hbi (wpAny_mono h (fun v s' z => ?_) fun _ _ z => z)
    cases v <;> first | exact ⟨rfl, fun _ q => by cases q; exact z⟩ | exact z.elim
  have fin : ∀ {k : Option Value → Sem Value}, (∀ v, k (some v) = pure v) → wpAny (model prog w) A (tryCompare (.ref x) nf' b >>= k) Q E ⟨hp, g, d, t, os⟩ := by
    intro k hk
    apply wpAny_bind
    refine wpAny_mono go (fun o s' z => ?_) fun _ _ z => z
    obtain ⟨q, z⟩ := z
    cases o with
    | none => cases q
    | some v =>
      rw [hk]
      exact wpAny_pure (z v rfl)
  split
  · rename_i ne
    simp only [Bool.or_eq_true, beq_iff_eq] at nf
    rcases nf with rfl | q
    · exact absurd ne (by simp)
    · apply wpAny_bind
      apply (looks_subIn X q).at
      dsimp only [Bool.false_eq_true, if_false]
      exact fin fun v => rfl
  · apply wpAny_bind
    apply wpAny_pure
    exact fin fun v => rfl
/-- the entry of object.__ne__ -/
theorem ne_entry (hu : A.units < cLine) (X : K.In hp) (I : InstAt hp x ox C od) (he : findIn K (.ref C) "__eq__" = some (some (.ref f))) (tf : typeIn K (.ref f) = some (.type "function")) {Q : PySem.Fin → Shared → Prop}
    (h : wpAny (model prog w) A (call (.ref f) [.ref x, b]) (fun v s' => ∃ k, v = .bool k ∧ Q (.done (.ret (.bool !k))) s') E ⟨hp, g, d, t, os⟩) :
    wpAny (model prog w) A (Builtin.«object.__ne__» { pos := [.ref x, b] }) Q E ⟨hp, g, d, t, os⟩ := by
  unfold Builtin.«object.__ne__»
  apply wpAny_bind
  have e : slotArgs "__ne__" 1 { pos := [.ref x, b] } = pure (.ref x, [b]) := rfl
  rw [e]
  apply wpAny_pure
  dsimp only
  apply wpAny_bind
  refine wpAny_cRoomFor hu ?_
  apply wpAny_bind
  refine ifb X I he (bind_fn X _ tf) (wpAny_mono h (fun v s' z => ?_) fun _ _ z => z)
  obtain ⟨k, rfl, q⟩ := z
  dsimp only
  apply wpAny_bind
  refine wpAny_truthy_bool ?_
  exact wpAny_pure q
/-- a != b, by an own __eq__ -/
theorem ne_own (hu : A.units + 1 < cLine) (X : K.In hp) (I : InstAt hp x ox C od) (hb : Looks (model prog w) hp (typeOf b) tb) (nf : notFirst K C tb = true) (hn : findIn K (.ref C) "__ne__" = some (some (.builtin "object.__ne__"))) (he : findIn K (.ref C) "__eq__" = some (some (.ref f)))
    (tf : typeIn K (.ref f) = some (.type "function")) (ob : mroIn K C (.type "object") = some true)
    (h : wpAny (model prog w) A.in1 (call (.ref f) [.ref x, b]) (fun v s' => ∃ k, v = .bool k ∧ Q (.bool !k) s') E ⟨hp, g, d, t, os⟩) : wpAny (model prog w) A (richCompare .NotEq (.ref x) b) Q E ⟨hp, g, d, t, os⟩ := by
  refine cmp_any (.inr rfl) (by omega) X I hb nf hn ?_ ?_
  · rw [PySem.F.slot_object_ne.bind]
    exact .now
  apply wpAny_call
  refine codeAny_call_builtin (by decide +kernel) (by rfl) ?_
  refine check_slot (s := ⟨hp, g, d, t, os⟩) (owner := "object") (n := "__ne__") (by decide +kernel) (by decide +kernel) ?_ (by rfl) ?_
  · exact I.type.andThen (W.looks_mroIn X ob)
  · exact ne_entry hu X I he tf h
/-- x in a, by an own __contains__ -/
theorem in_own (X : K.In hp) (I : InstAt hp x ox C od) (hf : findIn K (.ref C) "__contains__" = some (some (.ref f))) (tf : typeIn K (.ref f) = some (.type "function")) {Q : Bool → Shared → Prop}
    (h : wpAny (model prog w) A (call (.ref f) [.ref x, b]) (fun v s' => ∃ k, v = .bool k ∧ Q k s') E ⟨hp, g, d, t, os⟩) : wpAny (model prog w) A (contains (.ref x) b) Q E ⟨hp, g, d, t, os⟩ := by
  have l1 := looks_findIn (M := model prog w) X hf
  have l2 := bind_fn (M := model prog w) X (.ref x) tf
  unfold contains
  apply wpAny_holding
  have e : stdlibNamesSay? (.ref x) b = none := rfl
  rw [e]
  dsimp only
  unfold callSpecialUnlessNone? specialOf
  apply wpAny_bind
  apply wpAny_bind
  apply I.type.at
  apply l1.at
  dsimp only
  rw [if_neg (by simp)]
  apply wpAny_bind
  apply wpAny_bind
  apply wpAny_bind
  apply I.type.at
  apply l1.at
  dsimp only
  apply wpAny_holding
  apply wpAny_bind
  apply l2.at
  dsimp only [List.cons_append, List.nil_append]
  rw [if_neg (by simp)]
  apply wpAny_bind
  refine wpAny_mono h (fun v s' z => ?_) fun _ _ z => z
  obtain ⟨k, rfl, q⟩ := z
  apply wpAny_pure
  exact wpAny_truthy_bool q
end
end GO
end PySem
set_option maxHeartbeats 4000000
/-! Own operators of own instances, as rules. -/
namespace GL
open PySem PySem.Spec PyProof.Rows L2
theorem isFn_ty {K : PySem.W.Frag} {f : Addr} (h : PySem.W.isFn K (.ref f) = true) : PySem.W.typeIn K (.ref f) = some (.type "function") := by
  unfold PySem.W.isFn at h
  exact beq_iff_eq.mp h
section
variable {X : Cx} {pins : List (Addr × Obj)} {σ : L2.St} {H : Hp} {s : Shared} {a C dx f : Addr} {fs : List (Str × V)} {x y : V} {u t v : Value} {Q : VK} {CX : CXT} {E : XK} {k : Nat} {sp : Sp}
theorem inst_of (I : Inv X pins σ H s) (e : H a = some (.ins C dx fs)) : ∃ ox od, PySem.W.InstAt s.heap a ox C od := by
  obtain ⟨mA, hO, _, hw, _, _⟩ := ins_get I.hok e
  obtain ⟨oD, _, _, hoD, _, _⟩ := hO.ns.count hw
  exact ⟨_, some oD, hO.obj, rfl, rfl, hoD⟩
theorem ty_look (I : Inv X pins σ H s) (rx : L2.RelV x u) (ty : TyX X.K H x t) : PySem.W.Looks (model X.prog X.w) s.heap (typeOf u) t := by
  obtain ⟨P, kx, p, _⟩ := kit_of I rx ty
  exact kx.ty _ _ I.kIn p
theorem notImpl (z : EP X pins σ Q v s) : PySem.W.CmpBack (EP X pins σ Q) v s := by
  have ne : v ≠ .notImplemented := by
    rintro rfl
    obtain ⟨r, H', _, rr, _⟩ := z
    cases r <;> first | exact nomatch rr | (obtain ⟨_, e⟩ := rr; exact nomatch e)
  cases v <;> first | exact z | exact absurd rfl ne
theorem Room.in1 {k : Nat} {A : Around} (r : Room (k + 1) A) : Room k A.in1 := by
  refine ⟨r.hd, ?_, ?_⟩
  · have := r.dp
    show A.depth + 3 * k + 5 < recursionLimit
    omega
  · have := r.un
    show A.units + 1 + 16 * k + 200 < cLine
    omega
theorem run_in1 {us : List Value} {vs : List V} (F : FnR X.prog X.w X.K X.mg X.base CX k f sp) (hr : Room (k + 1) X.A) (hx : Passes CX X E) (I : Inv X pins σ H s) (r : Vals vs us) (q : sp vs H Q E) :
    wpAny (model X.prog X.w) X.A.in1 (PySem.call (.ref f) us) (EP X pins σ Q) X.xe s := by
  apply wpAny_call
  refine codeAny_mono (F X.A.in1 X.stack s H us vs Q E (Room.in1 hr) { I.env0 with frames := I.env0.frames } r q) fun r' s' z => ?_
  match r', z with
  | .error er, z => exact hx pins σ H s er s' I z
  | .ok .next, z => exact False.elim z
  | .ok .brk, z => exact False.elim z
  | .ok .cont, z => exact False.elim z
  | .ok (.ret u), z => exact I.after z
end

/-! ### a + b -/
structure OwnBin (K : PySem.W.Frag) (C : Addr) (op : Operator) (f : Addr) : Prop where
  m : Meth K C (dunder op.info.2) f
  r : PySem.W.findIn K (.ref C) (dunderR op.info.2) = some none
  c : ∃ cd rest, PySem.W.clsIn K C = some cd ∧ cd.mro = .ref C :: rest
  s : PySem.W.subIn K (.type "int") (.ref C) = some false
def rOwn (C : Addr) (sp : Sp) (E : XK) : R2 := fun x y H Q => ∃ a dx fs, x = .ref a ∧ H a = some (.ins C dx fs) ∧ ((∃ b dy gs, y = .ref b ∧ H b = some (.ins C dy gs)) ∨ ∃ n, y = .int n) ∧ sp [x, y] H Q E
theorem op_own {X : Cx} {CX : CXT} {E : XK} {k : Nat} {sp : Sp} {C f : Addr} {op : Operator} (hop : op = .Add ∨ op = .Sub ∨ op = .Mult) (B : OwnBin X.K C op f) (F : FnR X.prog X.w X.K X.mg X.base CX k f sp) (hr : Room k X.A) (hx : Passes CX X E) : OpR X (binaryOp op) (rOwn C sp E) := by
  intro pins s σ H x y v u Q I rx ry h
  obtain ⟨a, dx, fs, rfl, ea, hy, q⟩ := h
  cases (show v = Value.ref a from rx)
  obtain ⟨ox, od, J⟩ := inst_of I ea
  obtain ⟨cd, rest, hcd, hm⟩ := B.c
  have z : wpAny (model X.prog X.w) X.A (PySem.call (.ref f) [.ref a, u]) (PySem.W.CmpBack (EP X pins σ Q)) X.xe s := thn (wpAny_call (run_fnR F hr hx I (Paired.cons (a := V.ref a) (b := Value.ref a) rfl (.cons ry .nil)) q)) fun _ _ => notImpl
  rcases s with ⟨hp, g, d, tk, os⟩
  rcases hy with ⟨b, dy, gs, rfl, eb⟩ | ⟨n, rfl⟩
  · cases (show u = Value.ref b from ry)
    obtain ⟨oy, oe, J'⟩ := inst_of I eb
    exact PySem.GO.bin_same I.kIn J J' hcd hm B.m.at_ (isFn_ty B.m.fn) z
  · obtain ⟨tn, rfl⟩ := (show ∃ t, u = Value.int n t from ry)
    rcases hop with rfl | rfl | rfl
    · exact PySem.GO.bin_int (ia := "int.__add__") (ir := "int.__radd__") I.kIn J hcd hm B.m.at_ B.r (isFn_ty B.m.fn) (by show fastLookup "int" _ = _; decide +kernel) (by show fastLookup "int" _ = _; decide +kernel) (by decide +kernel) B.s z
    · exact PySem.GO.bin_int (ia := "int.__sub__") (ir := "int.__rsub__") I.kIn J hcd hm B.m.at_ B.r (isFn_ty B.m.fn) (by show fastLookup "int" _ = _; decide +kernel) (by show fastLookup "int" _ = _; decide +kernel) (by decide +kernel) B.s z
    · exact PySem.GO.bin_int (ia := "int.__mul__") (ir := "int.__rmul__") I.kIn J hcd hm B.m.at_ B.r (isFn_ty B.m.fn) (by show fastLookup "int" _ = _; decide +kernel) (by show fastLookup "int" _ = _; decide +kernel) (by decide +kernel) B.s z

/-! ### -a -/
theorem un_own {X : Cx} {CX : CXT} {E : XK} {k : Nat} {sp : Sp} {C f : Addr} (B : Meth X.K C "__neg__" f) (F : FnR X.prog X.w X.K X.mg X.base CX k f sp) (hr : Room k X.A) (hx : Passes CX X E) :
    UnR X (unaryOp .USub) (fun x H Q => ∃ a dx fs, x = .ref a ∧ H a = some (.ins C dx fs) ∧ sp [x] H Q E) := by
  intro pins s σ H x v Q I rx h
  obtain ⟨a, dx, fs, rfl, ea, q⟩ := h
  cases (show v = Value.ref a from rx)
  obtain ⟨ox, od, J⟩ := inst_of I ea
  have z := wpAny_call (run_fnR F hr hx I (Paired.cons (a := V.ref a) (b := Value.ref a) rfl .nil) q)
  rcases s with ⟨hp, g, d, tk, os⟩
  exact PySem.GO.neg_own I.kIn J B.at_ (isFn_ty B.fn) z

/-! ### a == b, a != b -/
structure OwnEq (K : PySem.W.Frag) (C f : Addr) : Prop where
  m : Meth K C "__eq__" f
  n : PySem.W.findIn K (.ref C) "__ne__" = some (some (.builtin "object.__ne__"))
  o : PySem.W.mroIn K C (.type "object") = some true
def rOwnE (K : PySem.W.Frag) (C : Addr) (sp : Sp) (E : XK) : R2 := fun x y H Q => ∃ a dx fs t, x = .ref a ∧ H a = some (.ins C dx fs) ∧ TyX K H y t ∧ PySem.W.notFirst K C t = true ∧ sp [x, y] H Q E
def rOwnN (K : PySem.W.Frag) (C : Addr) (sp : Sp) (E : XK) : R2 := fun x y H Q => ∃ a dx fs t, x = .ref a ∧ H a = some (.ins C dx fs) ∧ TyX K H y t ∧ PySem.W.notFirst K C t = true ∧ sp [x, y] H (fun v H' => ∃ k, v = .bl k ∧ Q (.bl !k) H') E
theorem op_eqO {X : Cx} {CX : CXT} {E : XK} {k : Nat} {sp : Sp} {C f : Addr} (B : OwnEq X.K C f) (F : FnR X.prog X.w X.K X.mg X.base CX k f sp) (hr : Room k X.A) (hx : Passes CX X E) : OpR X (compareOp .Eq) (rOwnE X.K C sp E) := by
  intro pins s σ H x y v u Q I rx ry h
  obtain ⟨a, dx, fs, t, rfl, ea, ty, nf, q⟩ := h
  cases (show v = Value.ref a from rx)
  obtain ⟨ox, od, J⟩ := inst_of I ea
  have z : wpAny (model X.prog X.w) X.A (PySem.call (.ref f) [.ref a, u]) (PySem.W.CmpBack (EP X pins σ Q)) X.xe s := thn (wpAny_call (run_fnR F hr hx I (Paired.cons (a := V.ref a) (b := Value.ref a) rfl (.cons ry .nil)) q)) fun _ _ => notImpl
  have hu : X.A.units < cLine := by have := hr.un; omega
  have lk := ty_look I ry ty
  rcases s with ⟨hp, g, d, tk, os⟩
  show wpAny _ _ (richCompare .Eq (.ref a) u) _ _ _
  have e : PySem.W.findIn X.K (.ref C) (cmpInfo .Eq).2.1 = some (some (.ref f)) := B.m.at_
  exact PySem.GO.cmp_any (op := .Eq) (.inl rfl) hu I.kIn J lk nf e (PySem.W.bind_fn I.kIn _ (isFn_ty B.m.fn)) z
theorem op_neO {X : Cx} {CX : CXT} {E : XK} {k : Nat} {sp : Sp} {C f : Addr} (B : OwnEq X.K C f) (F : FnR X.prog X.w X.K X.mg X.base CX k f sp) (hr : Room (k + 1) X.A) (hx : Passes CX X E) : OpR X (compareOp .NotEq) (rOwnN X.K C sp E) := by
  intro pins s σ H x y v u Q I rx ry h
  obtain ⟨a, dx, fs, t, rfl, ea, ty, nf, q⟩ := h
  cases (show v = Value.ref a from rx)
  obtain ⟨ox, od, J⟩ := inst_of I ea
  have hu : X.A.units + 1 < cLine := by have := hr.un; omega
  have lk := ty_look I ry ty
  have z := run_in1 F hr hx I (Paired.cons (a := V.ref a) (b := Value.ref a) rfl (.cons ry .nil)) q
  rcases s with ⟨hp, g, d, tk, os⟩
  refine PySem.GO.ne_own hu I.kIn J lk nf B.n B.m.at_ (isFn_ty B.m.fn) B.o (thn z ?_)
  rintro v s' ⟨r, H', I', rr, k, rfl, q'⟩
  exact ⟨k, rr, V.bl !k, H', I', rfl, q'⟩

/-! ### x in a -/
theorem op_inO {X : Cx} {CX : CXT} {E : XK} {k : Nat} {sp : Sp} {C f : Addr} (B : Meth X.K C "__contains__" f) (F : FnR X.prog X.w X.K X.mg X.base CX k f sp) (hr : Room k X.A) (hx : Passes CX X E) :
    OpR X (compareOp .In) (fun x y H Q => ∃ a dx fs, y = .ref a ∧ H a = some (.ins C dx fs) ∧ sp [y, x] H (fun v H' => ∃ k, v = .bl k ∧ Q v H') E) := by
  intro pins s σ H x y v u Q I rx ry h
  obtain ⟨a, dx, fs, rfl, ea, q⟩ := h
  cases (show u = Value.ref a from ry)
  obtain ⟨ox, od, J⟩ := inst_of I ea
  have z := wpAny_call (run_fnR F hr hx I (Paired.cons (a := V.ref a) (b := Value.ref a) rfl (.cons rx .nil)) q)
  rcases s with ⟨hp, g, d, tk, os⟩
  show wpAny _ _ (do let b ← contains (.ref a) v; return Value.bool b) _ _ _
  apply wpAny_bind
  refine PySem.GO.in_own I.kIn J B.at_ (isFn_ty B.fn) (thn z ?_)
  rintro w s' ⟨r, H', I', rr, k, rfl, q'⟩
  exact ⟨k, rr, wpAny_pure ⟨V.bl k, H', I', rfl, q'⟩⟩
end GL
set_option maxHeartbeats 1000000
/-! Calls with keywords alone: of defs, methods, classmethods. -/
namespace GL
open PySem PySem.Spec PyProof.Rows L2
theorem callWith_MK0 {A : Around} {E : Value → Shared → Prop} {s : Shared} {K : PySem.W.Frag} {M : Model} {env : Env} {pos : Pos} {first : List Value} {Q : Value → Shared → Prop} {q g : Addr} {self : Value} {kws : List Keyword} (hf : PySem.W.fnIn K g = true)
    (hall : ((backToKw pos (keywordEach kws env)).all fun x => x.fst.isSome) = true)
    (h : wpAny M A (evalAll (List.map (fun x => x.snd) (backToKw pos (keywordEach kws env))))
            (fun ks s₂ => PySem.W.MethP K q g self s₂.heap ∧ wpAny M A (call (.ref q) (first ++ []) ((List.filterMap (fun x => x.fst) (backToKw pos (keywordEach kws env))).zip ks)) Q E s₂) E s)
    (hplain : (((backTo pos (starEach [] env)).any fun x => x.fst) || (backToKw pos (keywordEach kws env)).any fun x => x.fst.isNone) = false) :
    wpAny M A (callWith pos (.ref q) first (backTo pos (starEach [] env)) (backToKw pos (keywordEach kws env))) Q E s :=
  PySem.W.callWith_of hplain (PySem.W.keeps_M hf) (evalArgs_kw2_nil hall h)
section
variable {X : Cx} {CX : CXT} {E : XK} {k n : Nat} {sp : Sp} {C f g : Addr} {fd : FuncData} {ps ks : List Str} {gU : List Value → List Value → List Value} {gV : List V → List V → List V} {kws : List Keyword} {tk : TA} {ta : TE} {o : Expr} {m x : Str} {p pos apos : Pos} {pl : Sem Bool}
theorem code_kw {pins : List (Addr × Obj)} {σ : L2.St} {H : Hp} {s : Shared} {Q : VK} {us ws : List Value} {vs zs : List V} (F : FnOk X.prog X.w X.K X.mg X.base CX k f fd ps sp) (hr : Room k X.A) (hb : KBn X.K fd ps n ks gU gV) (hx : Passes CX X E) (I : Inv X pins σ H s)
    (r : Vals vs us) (rz : Vals zs ws) (l1 : vs.length = n) (l2 : zs.length = ks.length) (q : sp (gV vs zs) H Q E) :
    codeAny (model X.prog X.w) X.A (.call (.ref f) ⟨us, ks.zip ws⟩) (fun r s' => match r with | .ok (.ret v) => EP X pins σ Q v s' | .ok _ => False | .error e => X.xe e s') s := by
  refine codeAny_mono (F.run X.A X.stack s H ⟨us, ks.zip ws⟩ (gU us ws) (gV vs zs) Q E hr I.env0 (hb.to s us ws I.kIn (by rw [← Paired.length r]; exact l1) (by rw [← Paired.length rz]; exact l2)) (hb.rel r rz) q) fun r' s' z => ?_
  match r', z with
  | .error er, z => exact hx pins σ H s er s' I z
  | .ok .next, z => exact False.elim z
  | .ok .brk, z => exact False.elim z
  | .ok .cont, z => exact False.elim z
  | .ok (.ret u), z => exact I.after z
/-- f(k = v, ..) -/
theorem pe_callN0 (F : FnOk X.prog X.w X.K X.mg X.base CX k f fd ps sp) (hr : Room k X.A) (hg : Gl X x) (hm : X.mg x = some (.ref f)) (hk : PySem.W.keepIn X.K (.ref f) = true) (hb : KBn X.K fd ps 0 ks gU gV) (hx : Passes CX X E) (hkw : PK X kws tk)
    (hall : (backToKw pos (keywordEach kws X.env)).all (·.1.isSome) = true := by rfl) (hks : (backToKw pos (keywordEach kws X.env)).filterMap (·.1) = ks := by rfl) (hdb : (x == ("__debug__" : Str)) = false := by decide)
    (hpl : ((backTo pos (starEach [] X.env)).any (·.1) || (backToKw pos (keywordEach kws X.env)).any (·.1.isNone)) = false := by rfl) :
    PE X (.Call (.Name x p) [] kws pos) (fun σ H Q => tk σ H fun zs H1 => zs.length = ks.length ∧ sp (gV [] zs) H1 Q E) := by
  constructor
  intro pins s σ H Q I h
  apply wpAny_Call_Name_kw
  refine ld_glob I hg hm ?_ hdb
  refine PySem.W.callWith_KW0 (h₀ := X.base) I.ok.mod.kin hk hall ?_ hpl
  refine thn (hkw.run pos pins s σ H _ I h) ?_
  rintro ws s2 ⟨zs, H2, I2, rz, l2, q⟩
  refine ⟨I2.kIn, ?_⟩
  rw [hks]
  exact wpAny_call (code_kw F hr hb hx I2 .nil rz rfl l2 q)
/-- o.m(k = v, ..) -/
theorem pe_methN0 (he : PE X o ta) (c : Cls X.K C) (hm : Meth X.K C m f) (F : FnOk X.prog X.w X.K X.mg X.base CX k f fd ps sp) (hr : Room k X.A) (hb : KBn X.K fd ps 1 ks gU gV) (hx : Passes CX X E) (hkw : PK X kws tk)
    (hall : (backToKw pos (keywordEach kws X.env)).all (·.1.isSome) = true := by rfl) (hks : (backToKw pos (keywordEach kws X.env)).filterMap (·.1) = ks := by rfl)
    (hpl : ((backTo pos (starEach [] X.env)).any (·.1) || (backToKw pos (keywordEach kws X.env)).any (·.1.isNone)) = false := by rfl)
    (ht : eval (.Call (.Attribute o m apos) [] kws pos) X.env = (do let ov ← eval o X.env; standAt apos.atName; let (f, first) ← holding [ov] (getMethod ov m pl); callWith pos f first (backTo pos (starEach [] X.env)) (backToKw pos (keywordEach kws X.env))) := by rfl) :
    PE X (.Call (.Attribute o m apos) [] kws pos) (fun σ H Q => ta σ H fun x H1 => ∃ a dx fs, x = .ref a ∧ H1 a = some (.ins C dx fs) ∧ fs.lookup m = none ∧ tk σ H1 fun zs H2 => zs.length = ks.length ∧ sp (gV [x] zs) H2 Q E) := by
  constructor
  intro pins s σ H Q I h
  refine PySem.W.methodCall_KW (thn (he.run pins s σ H _ I h) ?_) ht
  rintro u s1 ⟨x, H1, I1, rx, a, dx, fs, rfl, ea, l, q⟩
  cases (show u = Value.ref a from rx)
  refine getmeth_ok I1 ea c hm l ?_
  refine PySem.W.callWith_KW0 (h₀ := X.base) I.ok.mod.kin hm.kp hall ?_ hpl
  refine thn (hkw.run pos pins s1 σ H1 _ I1 q) ?_
  rintro ws s2 ⟨zs, H2, I2, rz, l2, q⟩
  refine ⟨I2.kIn, ?_⟩
  rw [hks]
  exact wpAny_call (code_kw F hr hb hx I2 (Paired.cons (a := V.ref a) (b := Value.ref a) rfl .nil) rz rfl l2 q)
/-- C.m(k = v, ..), m a classmethod -/
theorem pe_cmethN0 {mc : Value} {pp : Addr} (he : PE X o ta) (r : ClX.CRead X.K C mc) (c : ClX.CMet X.K C mc m pp f) (F : FnOk X.prog X.w X.K X.mg X.base CX k f fd ps sp) (hr : Room k X.A) (hb : KBn X.K fd ps 1 ks gU gV) (hx : Passes CX X E) (hkw : PK X kws tk)
    (hall : (backToKw pos (keywordEach kws X.env)).all (·.1.isSome) = true := by rfl) (hks : (backToKw pos (keywordEach kws X.env)).filterMap (·.1) = ks := by rfl)
    (hpl : ((backTo pos (starEach [] X.env)).any (·.1) || (backToKw pos (keywordEach kws X.env)).any (·.1.isNone)) = false := by rfl)
    (ht : eval (.Call (.Attribute o m apos) [] kws pos) X.env = (do let ov ← eval o X.env; standAt apos.atName; let (f, first) ← holding [ov] (getMethod ov m pl); callWith pos f first (backTo pos (starEach [] X.env)) (backToKw pos (keywordEach kws X.env))) := by rfl) :
    PE X (.Call (.Attribute o m apos) [] kws pos) (fun σ H Q => ta σ H fun x H1 => x = .ref C ∧ tk σ H1 fun zs H2 => zs.length = ks.length ∧ sp (gV [x] zs) H2 Q E) := by
  constructor
  intro pins s σ H Q I h
  refine PySem.W.methodCall_KW (thn (he.run pins s σ H _ I h) ?_) ht
  rintro u s1 ⟨x, H1, I1, rx, rfl, q⟩
  cases (show u = Value.ref C from rx)
  refine ClX.getmethcm_ok I1 r c fun s2 I2 => ?_
  refine callWith_MK0 (K := X.K) (g := f) (self := .ref C) c.fi hall ?_ hpl
  refine thn (hkw.run pos _ s2 σ H1 _ I2 q) ?_
  rintro ws s3 ⟨zs, H3, I3, rz, l2, q⟩
  refine ⟨⟨ClX.pin_at I3, I3.kIn⟩, ?_⟩
  rw [hks]
  have z := wpAny_call (PySem.W.method_call (pos := []) (ClX.pin_at I3) (code_kw F hr hb hx I3 (Paired.cons (a := V.ref C) (b := Value.ref C) rfl .nil) rz rfl l2 q))
  exact thn z fun _ _ y => ClX.unpinE y
end
end GL
set_option maxHeartbeats 4000000
/-! The hook with defs at any place: classmethods, properties. -/
namespace GL
open PySem PySem.Spec PyProof.Rows L2
structure DefX where
  ad : PySem.W.Frag → Addr
  d : He.DefD
def fnX (K : PySem.W.Frag) (x : DefX) : He.FnW := match K.lookup (x.ad K) with
  | some ⟨_, _, .func fd, _⟩ => some (fd.name, fd.qualname, fd.params, fd.body, fd.scope, fd.globals, fd.closure, fd.builtins)
  | _ => none
def okX (K : PySem.W.Frag) (x : DefX) : Bool := PySem.W.keepIn K (.ref (x.ad K)) && match K.lookup (x.ad K) with
  | some ⟨_, _, .func fd, _⟩ => PySem.W.codeIn K fd.code x.d.qual && (He.dflB K fd.defaults (He.DefD.dvs K x.d) && He.kwdB K fd.kwdefaults (He.DefD.kws K x.d))
  | _ => false
theorem funX {K : PySem.W.Frag} {x : DefX} (e : fnX K x = x.d.val) (o : okX K x = true) : ∃ fd, FunD K x.d.name x.d.qual x.d.params x.d.body x.d.scope (He.DefD.dvs K x.d) (He.DefD.kws K x.d) (x.ad K) fd := by
  obtain ⟨kp, o⟩ := He.ba o
  unfold fnX at e
  cases q : K.lookup (x.ad K) with
  | none =>
    rw [q] at o
    cases o
  | some ob =>
    obtain ⟨oc, od, dt, osl⟩ := ob
    rw [q] at e o
    cases dt with
    | func fd =>
      obtain ⟨n1, n2, n3, n4, n5, n6, n7, n8, n9, n10, n11, n12, n13, n14, n15⟩ := fd
      have e2 : some (n1, n2, n3, n4, n5, n6, n7, n15) = some (x.d.name, x.d.qual, x.d.params, FuncBody.stmts x.d.body, x.d.scope, mainGlobals, [], builtinsNs) := e
      simp only [Option.some.injEq, Prod.mk.injEq] at e2
      obtain ⟨rfl, rfl, rfl, rfl, rfl, rfl, rfl, rfl⟩ := e2
      obtain ⟨c1, c2⟩ := He.ba o
      obtain ⟨c2, c3⟩ := He.ba c2
      exact ⟨_, ⟨oc, od, n8, n9, n10, n11, n12, n13, n14, osl, rfl, q, c1, He.dflB_ok c2, He.kwdB_ok c3⟩, kp⟩
    | _ => cases o
def SaysX (fx : List DefX) (K : PySem.W.Frag) : Prop := fx.map (fnX K) = fx.map (fun x => x.d.val) ∧ fx.all (okX K) = true
theorem SaysX.def_ {fx : List DefX} {K : PySem.W.Frag} (c : SaysX fx K) (i : Nat) {x : DefX} (h : fx[i]? = some x := by rfl) :
    ∃ fd, FunD K x.d.name x.d.qual x.d.params x.d.body x.d.scope (He.DefD.dvs K x.d) (He.DefD.kws K x.d) (x.ad K) fd := by
  refine funX ?_ (List.all_eq_true.mp c.2 x (List.mem_of_getElem? h))
  have e : (fx.map (fnX K))[i]? = (fx.map (fun x => x.d.val))[i]? := by rw [c.1]
  rw [List.getElem?_map, List.getElem?_map, h] at e
  exact Option.some.inj e
abbrev AlZ : Type := He.AlD × (List He.FnW × Bool)
def obsZ (n : Nat) (fa : List He.Fa) (fn : List He.DefD) (fx : List DefX) (ex : PySem.W.Frag → Bool) (g : Addr → Option Obj) : AlZ := (He.obsD fa fn (kOf n g), (fx.map (fnX (kOf n g)), fx.all (okX (kOf n g)) && ex (kOf n g)))
def hookZ (n : Nat) (fa : List He.Fa) (fn : List He.DefD) (fx : List DefX) (ex : PySem.W.Frag → Bool) : PySem.W.Hook where
  α := AlZ
  obs := fun s => obsZ n fa fn fx ex s.heap.get?
  val := fun _ => (He.valD fn, (fx.map (fun x : DefX => x.d.val), true))
  says := fun _ h => ∃ K : PySem.W.Frag, K.In h ∧ He.SaysD fa fn K ∧ SaysX fx K ∧ ex K = true
  of := fun _ s e => ⟨kOf n s.heap.get?, He.frG_in, congrArg (fun z : AlZ => z.1) e, ⟨congrArg (fun z : AlZ => z.2.1) e, (He.ba (show (fx.all (okX (kOf n s.heap.get?)) && ex (kOf n s.heap.get?)) = true from congrArg (fun z : AlZ => z.2.2) e)).1⟩, (He.ba (show (fx.all (okX (kOf n s.heap.get?)) && ex (kOf n s.heap.get?)) = true from congrArg (fun z : AlZ => z.2.2) e)).2⟩
  keeps := fun _ _ _ ⟨K, hK, c⟩ k => ⟨K, PySem.W.Frag.In.keeps hK k, c⟩
theorem obsZ_eq {n : Nat} {fa : List He.Fa} {fn : List He.DefD} {fx : List DefX} {ex : PySem.W.Frag → Bool} {g : Addr → Option Obj} {s : Shared} (h : ∀ a, g a = s.heap.get? a) : obsZ n fa fn fx ex g = (hookZ n fa fn fx ex).obs s := by
  have e : g = s.heap.get? := funext h
  rw [e]
  rfl
/-! ### where a classmethod's, a property's def stands -/
def wrapAt (K : PySem.W.Frag) (C : Addr) (m : Str) (T : String) : Addr := match PySem.W.recIn K (He.ma K C m) T with
  | some (.ref g :: _) => g
  | _ => 0
def propB (K : PySem.W.Frag) (C : Addr) (f : Str) : Bool := He.eqO (PySem.W.findIn K (.ref C) f) (some (some (.ref (He.ma K C f)))) && (He.eqO (PySem.W.specialIn K (.ref (He.ma K C f)) "__get__") (some (some (.builtin "property.__get__"))) &&
  (decide (PySem.W.takesIn K (.ref (He.ma K C f)) = some true) && (match PySem.W.recIn K (He.ma K C f) "property" with | some (.ref _ :: _) => true | _ => false)))
theorem propB_ok {K : PySem.W.Frag} {C : Addr} {f : Str} (h : propB K C f = true) : PropOf K C f (He.ma K C f) (wrapAt K C f "property") := by
  obtain ⟨h1, h⟩ := He.ba h
  obtain ⟨h2, h⟩ := He.ba h
  obtain ⟨h3, h4⟩ := He.ba h
  refine ⟨He.eqO_ok h1, He.eqO_ok h2, of_decide_eq_true h3, ?_⟩
  unfold wrapAt
  split at h4
  · rename_i g rest e
    exact ⟨rest, by rw [e]⟩
  · cases h4
def cmetB (K : PySem.W.Frag) (C : Addr) (mc : Value) (m : Str) : Bool := (match PySem.W.findCls K (.ref C) mc m with | some (.get (.builtin i) (.ref p) .none (.ref C')) => i == "classmethod.__get__" && (p == He.ma K C m && C' == C) | _ => false) &&
  ((match PySem.W.recIn K (He.ma K C m) "classmethod" with | some (.ref _ :: _) => true | _ => false) && PySem.W.fnIn K (wrapAt K C m "classmethod"))
theorem cmetB_ok {K : PySem.W.Frag} {C : Addr} {mc : Value} {m : Str} (h : cmetB K C mc m = true) : ClX.CMet K C mc m (He.ma K C m) (wrapAt K C m "classmethod") := by
  obtain ⟨h1, h⟩ := He.ba h
  obtain ⟨h2, h3⟩ := He.ba h
  refine ⟨?_, ?_, h3⟩
  · split at h1
    · rename_i i p C' e
      simp only [Bool.and_eq_true, beq_iff_eq] at h1
      obtain ⟨rfl, rfl, rfl⟩ := h1
      exact e
    · cases h1
  · unfold wrapAt
    split at h2
    · rename_i g rest e
      exact ⟨rest, by rw [e]⟩
    · cases h2
end GL
set_option maxHeartbeats 4000000
namespace K18
open PySem PySem.Spec PyProof.Rows L2 GL
def tp (i : Nat) : Stmt := PySem.Challenge.pw_fademodes_k21_rules_refused.main.body.getD i (.Pass ⟨0, 0, 0, 0⟩)
abbrev sIsInt : Stmt := tp 14
abbrev sIsNum : Stmt := tp 21
abbrev sRatio (j : Nat) : Stmt := inClass (tp 22) j
abbrev sRatiosOf : Stmt := tp 23
end K18
set_option maxHeartbeats 4000000
/-! The hook of GH with the interpreter's own statics among what K holds; keywords of defs without defaults. -/
namespace GL
open PySem PySem.Spec PyProof.Rows L2
/-- what an object names that a law's facts ask: a namespace's values, a def's code and defaults, a class's namespace, a record's fields -/
def refsT (o : Obj) : List Addr := match o.data with
  | .dict es _ => es.toList.flatMap fun e => He.refV e.val
  | .func fd => He.refV fd.code ++ He.refV fd.defaults
  | .cls cd => [cd.ns]
  | .fields vs => vs.toList.flatMap He.refV
  | _ => []
def nextT (g : Addr → Option Obj) (as : List Addr) : List Addr := as.flatMap fun a => match g a with
  | some o => refsT o
  | none => []
def lvls (g : Addr → Option Obj) : Nat → List Addr → List Addr
  | 0, as => as
  | n + 1, as => as ++ lvls g n (nextT g as)
def kOfT (n : Nat) (g : Addr → Option Obj) : PySem.W.Frag := He.frG g (cStatics :: sysModules :: lvls g n [mainGlobals])
def obsT (n : Nat) (fa : List He.Fa) (fn : List He.DefD) (fx : List DefX) (ex : PySem.W.Frag → Bool) (g : Addr → Option Obj) : AlZ := (He.obsD fa fn (kOfT n g), (fx.map (fnX (kOfT n g)), fx.all (okX (kOfT n g)) && ex (kOfT n g)))
def hookT (n : Nat) (fa : List He.Fa) (fn : List He.DefD) (fx : List DefX) (ex : PySem.W.Frag → Bool) : PySem.W.Hook where
  α := AlZ
  obs := fun s => obsT n fa fn fx ex s.heap.get?
  val := fun _ => (He.valD fn, (fx.map (fun x : DefX => x.d.val), true))
  says := fun _ h => ∃ K : PySem.W.Frag, K.In h ∧ He.SaysD fa fn K ∧ SaysX fx K ∧ ex K = true
  of := fun _ s e => ⟨kOfT n s.heap.get?, He.frG_in, congrArg (fun z : AlZ => z.1) e, ⟨congrArg (fun z : AlZ => z.2.1) e, (He.ba (show (fx.all (okX (kOfT n s.heap.get?)) && ex (kOfT n s.heap.get?)) = true from congrArg (fun z : AlZ => z.2.2) e)).1⟩, (He.ba (show (fx.all (okX (kOfT n s.heap.get?)) && ex (kOfT n s.heap.get?)) = true from congrArg (fun z : AlZ => z.2.2) e)).2⟩
  keeps := fun _ _ _ ⟨K, hK, c⟩ k => ⟨K, PySem.W.Frag.In.keeps hK k, c⟩
theorem obsT_eq {n : Nat} {fa : List He.Fa} {fn : List He.DefD} {fx : List DefX} {ex : PySem.W.Frag → Bool} {g : Addr → Option Obj} {s : Shared} (h : ∀ a, g a = s.heap.get? a) : obsT n fa fn fx ex g = (hookT n fa fn fx ex).obs s := by
  have e : g = s.heap.get? := funext h
  rw [e]
  rfl
/-- every parameter but the first n is named -/
theorem kbn {K : PySem.W.Frag} {x qual : Str} {params : Arguments} {body : List Stmt} {scope : Scope} {kws : List (Str × V)} {f : Addr} {fd : FuncData} {ps : List Str} (F : FunD K x qual params body scope [] kws f fd) (n : Nat) (ks : List Str) (gU : List Value → List Value → List Value) (gV : List V → List V → List V)
    (hrel : ∀ {vs zs : List V} {us ws : List Value}, Vals vs us → Vals zs ws → Vals (gV vs zs) (gU us ws))
    (h : ∀ (kV doc pm : Value) (an : Option Addr) (cdv ct : Value) (us ws : List Value), us.length = n → ws.length = ks.length → bindArgs (PySem.W.fnOf x qual params body scope .none kV doc pm an cdv ct) ⟨us, ks.zip ws⟩ = pure (ps.zip (gU us ws))) : KBn K fd ps n ks gU gV := by
  obtain ⟨oc, od, dV, kV, doc, pm, an, cdv, ct, osl, rfl, lk, hcd, hD, hK⟩ := F.ex
  rcases hD with ⟨_, rfl⟩ | ⟨e, _⟩
  · exact ⟨fun s us ws _ l1 l2 => .of_eq (h kV doc pm an cdv ct us ws l1 l2), fun r z => hrel r z⟩
  · exact absurd rfl e
theorem Vals.rev : ∀ {vs : List V} {us : List Value}, Vals vs us → Vals vs.reverse us.reverse
  | _, _, .nil => .nil
  | _, _, .cons a b => by
    rw [List.reverse_cons, List.reverse_cons]
    exact (Vals.rev b).append (.cons a .nil)
end GL
namespace GL
open PySem PySem.Spec PyProof.Rows L2
section
open HandSHeadRun
/-- the head's run, put together from what it shows of its parts: each is computed by itself -/
theorem run_parts {r : PySem.W.OpenRow} {q : Program} {n : Nat} {fa : List He.Fa} {fn : List He.DefD} {fx : List DefX} {ex : PySem.W.Frag → Bool} {M : Nat} {loose : List PySem.Str} {w : World}
    (h1 : (wholeF (fun p => stepQ (denQ tabQ) p w) fenceQ M r.prog).map (fun x => (looksF r.prog x.1.heap x.2.abs, seenQ q loose (importedModules r.prog.main.body) (fun s => PySem.W.xlAt q [] s && PySem.W.recOk r.toRowW.records s) x.2.abs)) = some (true, PySem.W.openGood q loose))
    (h2 : (wholeF (fun p => stepQ (denQ tabQ) p w) fenceQ M r.prog).map (fun x => He.obsD fa fn (kOfT n (getT x.2))) = some (He.valD fn))
    (h3 : (wholeF (fun p => stepQ (denQ tabQ) p w) fenceQ M r.prog).map (fun x => (fx.map (fnX (kOfT n (getT x.2))), fx.all (okX (kOfT n (getT x.2))) && ex (kOfT n (getT x.2)))) = some (fx.map (fun x : DefX => x.d.val), true)) :
    RunEqI r q (hookT n fa fn fx ex) (fun s => obsT n fa fn fx ex (getT s)) M loose w := by
  unfold RunEqI
  cases e : wholeF (fun p => stepQ (denQ tabQ) p w) fenceQ M r.prog with
  | none =>
    rw [e] at h1
    cases h1
  | some x =>
    rw [e] at h1 h2 h3
    have a1 := Option.some.inj h1
    have a2 := Option.some.inj h2
    have a3 := Option.some.inj h3
    obtain ⟨b1, b2⟩ := Prod.mk.inj a1
    refine congrArg some (Prod.ext b1 (Prod.ext b2 ?_))
    exact Prod.ext a2 a3
end
end GL
set_option maxHeartbeats 4000000
/-! Errors of the program raised and caught: raise C(e, ..) of a class of errors with an __init__ that stores its parameters; several clauses with names; a field of what was caught. -/
namespace GL
open PySem PySem.Spec PyProof.Rows L2
/-! ### raise C(e, ..) -/
theorem XC.isType {K : PySem.W.Frag} {C : Addr} {b : EB} (T : XC K C b) : PySem.W.typeIn K (.ref C) = some (.type "type") := by
  obtain ⟨nm, q, N, bs, bm, sn, sub, ab, col, dd, k0, k1, k2, k3, k5, hC, _⟩ := T.cls
  show Option.map (fun x => x.cls) (List.lookup C K) = _
  rw [hC]
  rfl
/-- C(e, ..) made, to be raised: fl its fields -/
def tRaise (C : Addr) (fl : List Str) (t : TA) : L2.St → Hp → XK → Prop := fun σ H Q => t σ H fun vs H1 => vs.length = fl.length ∧ vs.length ≤ 1000 ∧ ∀ d H2, Same H1 H2 → H1 d = none → H2 d = some (.xd (fl.zip vs).reverse) → Q (.ref C) (some d) H2
section
variable {X : Cx} {x : Str} {C fI : Addr} {b : EB} {k : Nat} {fd : FuncData} {ps : List Str} {fl : List Str} {e : Expr} {es : List Expr} {ta : TA} {p pos : Pos}
theorem pmk_x (T : XC X.K C b) (iC : PySem.W.findIn X.K (.ref C) "__init__" = some (some (.ref fI))) (tI : PySem.W.typeIn X.K (.ref fI) = some (.type "function")) (F1 : FnOk X.prog X.w X.K X.mg X.base CX0 k fI fd ps (spInit C fl))
    (hr : Room (k + 1) X.A) (hb : Binds X.K fd ps []) (hg : Gl X x) (hm : X.mg x = some (.ref C)) (ha : PA X (e :: es) ta) (hdb : (x == ("__debug__" : Str)) = false := by decide)
    (he : starEach (e :: es) X.env = (false, eval e X.env) :: starEach es X.env := by rfl) (hpl : (backTo pos (starEach es X.env)).any (·.1) = false := by rfl) : PMk X (.Call (.Name x p) (e :: es) [] pos) (tRaise C fl ta) := by
  intro pins s σ H Q I h
  apply wpAny_Call_Name_kw
  refine ld_glob I hg hm ?_ hdb
  refine PySem.W.callWith_K (h₀ := X.base) I.ok.mod.kin T.keep (thn (ha.run pos pins s σ H _ I h) ?_) he hpl
  rintro us s1 ⟨vs, H1, I1, r1, len, small, q⟩
  refine ⟨I1.kIn, ?_⟩
  obtain ⟨nm, qn, N, bs, bm, sn, sub, ab, col, dd, k0, k1, k2, k3, k5, hC, hbm⟩ := T.cls
  obtain ⟨i, FB⟩ := b.base
  rcases s1 with ⟨hp, g, dr, tk, os⟩
  have le1 : hp.objs.size ≤ hp.objs.size + 1 := Nat.le_succ _
  have free : H1 (hp.objs.size + 1) = none := I1.hok.fresh le1
  have kk : ∀ b o, hp.get? b = some o → ((hp.push (PySem.W.kdv_tup us)).push (PySem.HandSPX.excO C hp.objs.size)).get? b = some o := fun b o z => Heap.get?_push_of_some _ (Heap.get?_push_of_some _ z)
  have at_ : ((hp.push (PySem.W.kdv_tup us)).push (PySem.HandSPX.excO C hp.objs.size)).get? (hp.objs.size + 1) = some (PySem.HandSPX.excO C hp.objs.size) := by heap_get
  have J : Inv X pins σ (upd H1 (hp.objs.size + 1) (exo (hp.objs.size + 1) C none)) ⟨(hp.push (PySem.W.kdv_tup us)).push (PySem.HandSPX.excO C hp.objs.size), g, dr, tk, os⟩ := I1.laid (t' := tk) kk le1 (exo_ok at_)
  have rr : Vals (V.ref (hp.objs.size + 1) :: vs) (Value.ref (hp.objs.size + 1) :: us) := .cons rfl r1
  have le2 : us.length ≤ sizeLine := by
    rw [← Paired.length r1, sizeLine_eq]
    omega
  have hq : spInit C fl (.ref (hp.objs.size + 1) :: vs) (upd H1 (hp.objs.size + 1) (exo (hp.objs.size + 1) C none)) (fun v H2 => v = .non ∧ ∃ d, H2 (hp.objs.size + 1) = some (exo (hp.objs.size + 1) C (some d)) ∧ H2 d = some (exd d (fl.zip vs).reverse) ∧ H1 d = none ∧
      Q (.ref C) (some d) (upd (del H2 (hp.objs.size + 1)) d (.xd (fl.zip vs).reverse))) E0 := by
    refine ⟨_, vs, rfl, len, upd_same, fun dx H' n1 n2 o1 o2 kp => ⟨rfl, dx, o1, o2, ?_, ?_⟩⟩
    · rw [upd_ne n2] at n1
      exact n1
    · rw [upd_ne n2] at n1
      refine q dx _ (fun c o z => ?_) n1 upd_same
      have c1 : c ≠ hp.objs.size + 1 := ne_of_none z free
      have c2 : c ≠ dx := ne_of_none z n1
      rw [upd_ne c2, del_ne c1]
      exact kp c o (by rw [upd_ne c1]; exact z) c1
  have hlen := F1.len _ _ _ _ hq
  show wpAny _ _ (PySem.call (.ref C) us) _ _ _
  refine wpAny_call (PySem.GX.made FB (fun Y => PySem.W.excTail_contains Y bm hbm) (I1.kIn _ _ hC) (PySem.W.looks_findIn I1.kIn iC) (fun self => PySem.W.bind_fn I1.kIn self tI) le2 ?_)
  have bnd : BindsTo ⟨(hp.push (PySem.W.kdv_tup us)).push (PySem.HandSPX.excO C hp.objs.size), g, dr, tk, os⟩ fd ⟨Value.ref (hp.objs.size + 1) :: us, []⟩ (ps.zip (Value.ref (hp.objs.size + 1) :: us)) := by
    have z := hb _ (Value.ref (hp.objs.size + 1) :: us) J.kIn (by rw [List.append_nil, ← hlen, List.length_cons, List.length_cons, Paired.length r1])
    simpa using z
  refine codeAny_mono (F1.run _ X.stack _ _ ⟨Value.ref (hp.objs.size + 1) :: us, []⟩ (Value.ref (hp.objs.size + 1) :: us) _ _ E0 (hr.make C us []) (J.env0.make C us []) bnd rr hq) ?_
  intro r' s' z
  match r', z with
  | .error er, z => exact False.elim z
  | .ok .next, z => exact False.elim z
  | .ok .brk, z => exact False.elim z
  | .ok .cont, z => exact False.elim z
  | .ok (.ret u), z =>
    obtain ⟨v, H2, os2, bare2, un2, hok2, rv, rfl, d, o1, o2, n1, w⟩ := z
    obtain ⟨h2, g2, d2, t2, os'⟩ := s'
    exact ⟨rv, mk_end (raises_own T.exB T.isType) I1 le1 kk un2 hok2 os2 bare2 o1 o2 n1 w⟩
end

/-! ### several clauses, each with a name -/
/-- the ends of a clause's suite: its name (slot i) is gone -/
def gone (D : Ends) (i : Nat) : Ends := { nx := fun z H' => D.nx (z.set i none) H', rt := D.rt, bk := fun z H' => D.bk (z.set i none) H', ct := fun z H' => D.ct (z.set i none) H' }
abbrev Clause : Type := Value × Nat × (Addr → Value → Option Addr → TS)
/-- what the clauses wish of an exception of the body -/
def wNamed (K : PySem.W.Frag) (W0 : WX) (D : Ends) : List Clause → WX
  | [] => W0
  | (c, i, ts) :: rest => fun cls d z H => ∃ hit, PySem.W.exmOne K cls c = some hit ∧ (hit = true → ∀ a, H a = none → ts a cls d (gone D i) (z.set i (some (.ref a))) H) ∧ (hit = false → wNamed K W0 D rest cls d z H)
inductive Clauses (X : Cx) : List ExceptHandler → List Clause → Prop
  | nil : Clauses X [] []
  | cons {x n : Str} {c : Value} {i : Nat} {ts : Addr → Value → Option Addr → TS} {b₀ : Stmt} {suite : List Stmt} {q1 q2 : Pos} {hds : List ExceptHandler} {rest : List Clause} (slot : X.N[i]? = some n) (own : X.env.kindOf n = some .local) (hc : Names X x c)
      (run : ∀ (a : Addr) (oe : Obj) (cls : Value) (d : Option Addr) (pn : List (Addr × Obj)), Zc cls d oe → (∃ vs, oe.data = .fields vs) → PSs (X.suite a ((a, oe) :: pn)) (b₀ :: suite) (ts a cls d)) (more : Clauses X hds rest) :
      Clauses X (.ExceptHandler (some (.Name x q1)) (some n) (b₀ :: suite) q2 :: hds) ((c, i, ts) :: rest)
section
variable {X : Cx} {pins : List (Addr × Obj)} {z z' : L2.St} {H H' : Hp} {s s' sI : Shared} {D : Ends}
/-- behind a suite: the name is taken away -/
theorem suite_end {n : Str} {i : Nat} {a : Addr} {oe : Obj} {pos : Pos} {Q : Shared → Prop} (ok : X.Ok) (hN : X.N.Nodup) (slot : X.N[i]? = some n) (own : X.env.kindOf n = some .local)
    (S : Inv (X.suite a ((a, oe) :: (X.pn ++ pins))) [] z H s) (h : ∀ s2, Inv X pins (z.set i none) H s2 → Q s2) :
    wpAny (model X.prog X.w) X.A (do bindName X.env n .none; unbindBehindTheSuite X.env n pos) (fun _ s2 => Q s2) X.xe s := gone_ok (S.unsuite ok) hN slot own h
theorem in_clauses {W0 : WX} {B : Heap} {a : Addr} {cls : Value} {d : Option Addr} (tk : Takes X W0) (hs : X.stack = X.env :: X.outer) (hf : X.env.frame = some X.env.locals) (hN : X.N.Nodup) (I : Inv X pins z H sI)
    (nb : ∀ b o, sI.heap.get? b = some o → b ∉ frs X.stack → B.get? b = some o) (up : sI.heap.UpToSlots s.heap) (fl : HandSPX.FlyingZ B (X.env :: X.outer) a (Zc cls d) s.heap) (na : H a = none) (os : s.os = sI.os) (ag : AllBare s.gens)
    {hds : List ExceptHandler} {l : List Clause} (hk : Clauses X hds l) (w : wNamed X.K W0 D l cls d z H) : wpAny (model X.prog X.w) X.A (handleBy (.ref a) X.env hds) (SP X pins D) X.xe s := by
  have ok := I.ok
  have landed : Inv X pins z H s := I.landed nb fl.1 up os ag
  have apart : ∀ {h : Heap}, HandSPX.FlyingZ B (X.env :: X.outer) a (Zc cls d) h → a ≠ X.env.locals ∧ a ∉ X.fs := by
    intro h f
    obtain ⟨oe, vs, e1, _, e3⟩ := f.there
    have nm : a ∉ frs (X.env :: X.outer) := fun m => by
      obtain ⟨_, o', e', no⟩ := f.2.2.1.mem m
      rw [e1] at e'
      cases e'
      exact no _ e3
    refine ⟨fun q => nm (List.mem_filterMap.mpr ⟨X.env, List.mem_cons_self, by rw [hf, q]⟩), fun m => ?_⟩
    obtain ⟨e, he, q⟩ := List.mem_filterMap.mp m
    exact nm (List.mem_filterMap.mpr ⟨e, List.mem_cons_of_mem _ he, q⟩)
  obtain ⟨nL, nF⟩ := apart fl
  induction hk with
  | nil =>
    refine wpAny_handleBy_nil ?_
    obtain ⟨_, _, _, oe, vs, T, oT, ts', e0, _, e2, e3, _⟩ := id fl
    unfold PySem.passOn
    refine wpAny_bind (wpAny_field e0 e2 e3 ?_)
    have notNone : ¬ ((Value.ref T == Value.none) = true) := by simp
    rw [if_neg notNone]
    have last : wpAny (model X.prog X.w) X.A (setFlight (.ref a) X.env.frame) (fun _ s4 => wpAny (model X.prog X.w) X.A (throw (.ref a) : Sem Flow) (SP X pins D) X.xe s4) X.xe s := by
      rw [hf]
      refine HandSPX.setFlight_upZ fl fun h4 held up4 => wpAny_throw (tk _ _ ⟨a, B, sI, pins, z, H, cls, d, rfl, I, nb, up.trans up4, .inr (.inr ?_), na, os, ag, w⟩)
      rw [hs]
      exact held
    first
      | exact wpAny_bind last
      | exact wpAny_bind (wpAny_pure (wpAny_bind last))
  | @cons x n c i ts b₀ suite q1 q2 hds rest slot own hc run more ih =>
    obtain ⟨hit, m, yes, no⟩ := w
    obtain ⟨oe, vs, e1, e2, e3⟩ := fl.there
    have S0 := landed.suite e1 e3 na nL nF
    refine wpAny_handleBy_cons (codeAny_handlers_test ?_) (fun q => nomatch q)
    have ty : PySem.W.Looks (model X.prog X.w) s.heap (typeOf (.ref a)) cls := fun A Q E s k q => wpAny_typeOf_ref (k _ _ e1) (by rw [e2.1]; exact q)
    have mt := PySem.W.exm_one (M := model X.prog X.w) landed.kIn ty m
    have named : ∀ {Q : Value → Shared → Prop} {E : Value → Shared → Prop}, Q c s → wpAny (model X.prog X.w) (X.A.mark (some (.ref a))) (eval (.Name x q1) X.env) Q E s := by
      intro Q E q
      rcases hc with ⟨g, db, hm | ⟨hm, hv, hnn⟩⟩
      · exact ld_glob (X := X.suite a ((a, oe) :: (X.pn ++ pins))) S0 g hm q db
      · exact ld_blt (X := X.suite a ((a, oe) :: (X.pn ++ pins))) S0 g hm hv q hnn db
    apply named
    refine mt.here ?_
    cases hit with
    | false => exact ih (no rfl)
    | true =>
      refine codeAny_handlers_suite_as ?_
      refine HandSPX.lands_againZ fl fun h4 fl4 up4 => ?_
      have J4 : Inv X pins z H { s with heap := h4 } := I.landed nb fl4.1 (up.trans up4) os ag
      obtain ⟨oe4, vs4, f1, f2, f3⟩ := fl4.there
      obtain ⟨mL, mF⟩ := apart fl4
      refine store_ok (X := X.suite a ((a, oe4) :: (X.pn ++ pins))) (v := .ref a) (J4.suite f1 f3 na mL mF) hN slot (.inl own) rfl (fun s5 S5 => ?_) (.inr own)
      refine wpAny_mono ((run a oe4 cls d (X.pn ++ pins) f2 ⟨_, f3⟩).run [] s5 _ H _ S5 (yes rfl a na)) ?_ fun _ _ q => False.elim q
      intro f s6 hsp
      match f, hsp with
      | .next, hsp =>
        obtain ⟨z6, H6, S6, w6⟩ := hsp
        exact suite_end ok hN slot own S6 fun s7 J7 => ⟨_, _, J7, w6⟩
      | .brk, hsp =>
        obtain ⟨z6, H6, S6, w6⟩ := hsp
        exact suite_end ok hN slot own S6 fun s7 J7 => ⟨_, _, J7, w6⟩
      | .cont, hsp =>
        obtain ⟨z6, H6, S6, w6⟩ := hsp
        exact suite_end ok hN slot own S6 fun s7 J7 => ⟨_, _, J7, w6⟩
      | .ret u, hsp =>
        obtain ⟨v6, z6, H6, S6, r6, w6⟩ := hsp
        exact suite_end ok hN slot own S6 fun s7 J7 => ⟨_, _, _, J7, r6, w6⟩
theorem ps_try_named {body : List Stmt} {h₀ : ExceptHandler} {hds : List ExceptHandler} {l : List Clause} {pos : Pos} {tb : WX → TS} {W0 : WX} (hs : X.stack = X.env :: X.outer) (hf : X.env.frame = some X.env.locals) (hN : X.N.Nodup) (tk : Takes X W0)
    (hb : ∀ (W : WX) (pn : List (Addr × Obj)) (xe : Value → Shared → Prop), Takes (X.tr pn xe) W → PSs (X.tr pn xe) body (tb W)) (hh : Clauses X (h₀ :: hds) l) :
    PS X (.Try body (h₀ :: hds) [] [] pos) (fun D z H => tb (wNamed X.K W0 D l) D z H) := by
  constructor
  intro pins s z H D I h
  have ok := I.ok
  have frames : X.A.frames = some (X.env :: X.outer) := by rw [ok.frames, hs]
  apply wpAny_Try_except
  refine wpAny_mono ((hb (wNamed X.K W0 D l) (X.pn ++ pins) _ ?_).run [] s z H D (I.toTry _) h) ?_ fun e s1 q => q
  · intro u s' xx
    obtain ⟨a, B, sI, pins', z', H', cls, d, rfl, J', nb, up, sky, na, os, ag, w⟩ := xx
    have sky' : Sky B (X.env :: X.outer) a (Zc cls d) X.env.locals s'.heap := by
      rw [← hs]
      exact sky
    show wpAny (model X.prog X.w) X.A (noteFrame (.ref a) X.env) _ _ _
    refine Sky.land Zc.steady frames hf sky' fun h3 fl3 up3 => ?_
    exact in_clauses (s := { s' with heap := h3 }) tk hs hf hN (J'.ofTry ok) nb (up.trans up3) fl3 na os ag hh w
  · intro f s1 hsp
    match f, hsp with
    | .next, hsp =>
      obtain ⟨z', H', J', q⟩ := hsp
      exact wpAny_execs_nil ⟨z', H', J'.ofTry ok, q⟩
    | .brk, hsp =>
      obtain ⟨z', H', J', q⟩ := hsp
      exact ⟨z', H', J'.ofTry ok, q⟩
    | .cont, hsp =>
      obtain ⟨z', H', J', q⟩ := hsp
      exact ⟨z', H', J'.ofTry ok, q⟩
    | .ret u, hsp =>
      obtain ⟨v, z', H', J', r, q⟩ := hsp
      exact ⟨v, z', H', J'.ofTry ok, r, q⟩
end
end GL
set_option maxHeartbeats 4000000
/-! What was caught: its fields, isinstance. -/
namespace GL
open PySem PySem.Spec PyProof.Rows L2
/-- the caught error's fields: d its dict -/
def Fields (H : Hp) (d : Option Addr) (fs : List (Str × V)) : Prop := (d = none ∧ fs = []) ∨ ∃ dx, d = some dx ∧ H dx = some (.xd fs)
section
variable {X : Cx} {a C : Addr} {oe : Obj} {pn : List (Addr × Obj)} {d : Option Addr} {b : EB} {e : Expr} {te : TE} {f : Str} {pos : Pos}
theorem caught_inst {pins : List (Addr × Obj)} {z : L2.St} {H : Hp} {s : Shared} {fs : List (Str × V)} (I : Inv (X.suite a ((a, oe) :: pn)) pins z H s) (hz : Zc (.ref C) d oe) (hf : ∃ vs, oe.data = .fields vs) (hd : Fields H d fs) :
    ∃ od, PySem.W.InstAt s.heap a oe C od ∧ ∀ f v, fs.lookup f = some v → ∃ u oD, od = some oD ∧ RelV v u ∧ PySem.W.lookIn f oD = some (some u) := by
  have there : s.heap.get? a = some oe := (I.pin (a, oe) (List.mem_append.mpr (.inl List.mem_cons_self))).1
  obtain ⟨vs, hv⟩ := hf
  obtain ⟨oc, od, dt, sl⟩ := oe
  obtain ⟨h1, h2⟩ := hz
  dsimp only at h1 h2 hv
  subst h1 h2 hv
  rcases hd with ⟨rfl, rfl⟩ | ⟨dx, rfl, hx⟩
  · exact ⟨none, ⟨there, rfl, rfl, trivial⟩, fun f v z => nomatch z⟩
  · obtain ⟨mA, hns, hr⟩ := I.hok dx _ hx
    obtain ⟨oD, hD, look⟩ := lookIn_ns hns
    refine ⟨some oD, ⟨there, rfl, rfl, hD⟩, fun f v z => ?_⟩
    obtain ⟨u, hu, ru⟩ := RelO.some_of (v := v) (o := mA f) (by rw [← z]; exact hr f)
    exact ⟨u, oD, rfl, ru, by rw [look, hu]⟩
/-- e.f, e what was caught -/
def tCaught (K : PySem.W.Frag) (C a : Addr) (cls : Value) (d : Option Addr) (te : TE) (f : Str) : TE := fun z H Q => te z H fun x H1 => x = .ref a ∧ cls = .ref C ∧ ∃ (fs : List (Str × V)) (v : V), PySem.W.findIn K (.ref C) f = some none ∧ Fields H1 d fs ∧ fs.lookup f = some v ∧ Q v H1
theorem pe_caught {cls : Value} (T : XC X.K C b) (hz : Zc cls d oe) (hf : ∃ vs, oe.data = .fields vs) (he : PE (X.suite a ((a, oe) :: pn)) e te) (hb : attributeBase e f X.env (eval e X.env) = eval e X.env := by rfl) : PE (X.suite a ((a, oe) :: pn)) (.Attribute e f pos) (tCaught X.K C a cls d te f) := by
  constructor
  intro pins s z H Q I h
  refine attr_of hb (thn (he.run pins s z H _ I h) ?_)
  rintro u s1 ⟨x, H1, I1, rx, rfl, rfl, fs, v, no, hd, l, q⟩
  cases (show u = Value.ref a from rx)
  obtain ⟨od, J, look⟩ := caught_inst I1 hz hf hd
  obtain ⟨u, oD, rfl, ru, hl⟩ := look f v l
  obtain ⟨cd, hcl, _, hdct⟩ := T.data
  have has : PySem.W.hasDictIn X.K C = true := by
    unfold PySem.W.hasDictIn
    rw [hcl]
    exact hdct
  exact HandSPX.exc_get I1.kIn J T.ga T.gg T.exB (PySem.W.findObj_own has no rfl hl) (handed_of ru) ⟨v, H1, I1.tok _, ru, q⟩
/-- isinstance(e, c) -/
def rCaughtIs (K : PySem.W.Frag) (C a : Addr) (cls : Value) (d : Option Addr) : List V → Hp → VK → Prop := fun xs H Q => ∃ (c : V) (cv : Value) (k : Bool) (fs : List (Str × V)), xs = [.ref a, c] ∧ cls = .ref C ∧ Fields H d fs ∧ ClsV c cv ∧ PySem.W.kitOne K (.ref C) cv = some k ∧ Q (.bl k) H
theorem call_caughtIs {cls : Value} (T : XC X.K C b) (hz : Zc cls d oe) (hf : ∃ vs, oe.data = .fields vs) (hn : PySem.W.specialIn X.K (.builtin "object.__class__") "__get__" = some (some (.builtin "getset_descriptor.__get__"))) (ht : PySem.W.takesIn X.K (.builtin "object.__class__") = some true) :
    CallR (X.suite a ((a, oe) :: pn)) (.builtin "isinstance") (rCaughtIs X.K C a cls d) := by
  intro pins s z H xs us Q I r h
  obtain ⟨c, cv, k, fs, rfl, rfl, hd, hc, e, q⟩ := h
  obtain ⟨u1, u2, rfl, r1, r2⟩ := vals2 r
  cases (show u1 = Value.ref a from r1)
  cases hc.eq r2
  obtain ⟨od, J, _⟩ := caught_inst I hz hf hd
  obtain ⟨cd, hcl, _, _⟩ := T.data
  exact PySem.W.kia_one (PySem.W.kitx_exc (by rw [hcl]; rfl) T.ga T.gg T.exB T.kl hn ht T.ob) I.kIn J e (fun z => nomatch z) fun tk => ⟨.bl k, H, I.tok tk, rfl, q⟩
end
end GL
set_option maxHeartbeats 4000000
/-! A lambda handed to a def that calls it within try, the clauses with names. -/
namespace GL
open PySem PySem.Spec PyProof.Rows L2
section
variable {X : Cx} {pins : List (Addr × Obj)} {z : L2.St} {H : Hp} {s : Shared}
abbrev lamObj (X : Cx) (params : Arguments) (body : Expr) (scope : Scope) (pm : Value) (c' : Addr) (ctv : Value) : Obj := PySem.W.kla_obj "<lambda>" (X.env.qual ++ "<lambda>") params body scope (cloFrom X.env.cells scope.names []) pm c' ctv
/-- a(), a the parameter of the def that got the lambda: what the lambda lets out meets the clauses with the slots as they are -/
theorem pe_actAt {CXg : CXT} {Eg : XK} {Ng : List Str} {qg : Str} {sg : Scope} {g f c' : Addr} {cdg pm ctv : Value} {params : Arguments} {body : Expr} {scope : Scope} {k i : Nat} {a : Str} {pn : List (Addr × Obj)} {xe : Value → Shared → Prop} {W : WX} {tb : XK → TE} {p1 p2 : Pos}
    (I : Inv X pins z H s) (L : LamX.LamS X.env.scope scope) (made : s.heap.get? f = some (lamObj X params body scope pm c' ctv)) (free : H f = none) (nofr : f ∉ frs X.stack)
    (bare : bindArgs (PySem.W.kla_fn "<lambda>" (X.env.qual ++ "<lambda>") params body scope (cloFrom X.env.cells scope.names []) pm (.ref c') ctv) ⟨[], []⟩ = pure [])
    (tk : Takes ((cxOf CXg X.prog X.w X.K X.mg X.base Ng qg sg g cdg X.A X.stack s H Eg).tr pn xe) W) (room : Room (k + 1) (X.A.deeper (envOfC qg sg s.heap.objs.size g cdg)))
    (inner : ∀ (A : Around) (outer : List Env) (s2 : Shared) (H2 : Hp) (E : XK), A.guards = X.A.guards → Room k (A.deeper (LamX.lamEnv X scope s2.heap.objs.size f c')) → PE (LamX.lamCx X A outer s2 H2 E scope f c') body (tb E))
    (at_ : Ng[i]? = some a) (hv : Vis sg a) (hd : (a == ("__debug__" : Str)) = false := by decide) (hcd : (a == ("__classdict__" : Str)) = false := by decide) :
    PE ((cxOf CXg X.prog X.w X.K X.mg X.base Ng qg sg g cdg X.A X.stack s H Eg).tr pn xe) (.Call (.Name a p1) [] [] p2)
      (fun y HZ Q => y[i]? = some (some (.ref f)) ∧ HZ c' = some (LamX.CodeO c' (X.env.qual ++ "<lambda>")) ∧ tb (fun cls d H' => W cls d y H') z HZ Q) := by
  constructor
  intro pinsZ sZ y HZ Q IZ ⟨slot, code, rd⟩
  have nm : PE ((cxOf CXg X.prog X.w X.K X.mg X.base Ng qg sg g cdg X.A X.stack s H Eg).tr pn xe) (.Name a p1) _ := pe_var (pos := p1) (i := i) at_ hv hd hcd
  apply wpAny_Call_Name_kw
  refine thn (nm.run pinsZ sZ y HZ (fun v H1 => v = .ref f ∧ H1 = HZ) IZ ⟨.ref f, slot, rfl, rfl⟩) ?_
  rintro u s1 ⟨v, H1, I1, r1, rfl, rfl⟩
  cases (show u = Value.ref f from r1)
  have there : s1.heap.get? f = some (lamObj X params body scope pm c' ctv) := I1.base.keep f _ made free nofr (fun q => nomatch (show f ∈ ([] : List Addr) from q))
  refine PySem.W.callWith_F0 ⟨_, _, _, _, there⟩ ?_
  have un : Un (frs X.stack) [] H H1 s.heap s1.heap := I1.base
  obtain ⟨⟨oc, vs, t, e1, e2, e3⟩, _, _⟩ := I1.hok c' _ code
  have run : codeAny (model X.prog X.w) (X.A.deeper (envOfC qg sg s.heap.objs.size g cdg)) (.call (.ref f) ⟨[], []⟩) (CR (L2.CX X.prog X.w) (envOfC qg sg s.heap.objs.size g cdg :: X.stack) X.prog X.w H1 s1 Q fun cls d H' => W cls d y H') s1 := by
    refine PySem.W.kla_callFunE room.depth there rfl L.co L.gen rfl ⟨c', oc, vs, t, rfl, e1, e2, e3⟩ ?_
    rw [bare]
    refine wpAny_pure (wpAny_newFunctionEnv (fun n hn => (L.own n hn).2) (fun n hn => absurd hn (by simp)) (fun h₁ names but => ⟨I1.nolimit.fresh _ but, ?_⟩) L.kind)
    have kp : ∀ b o, s1.heap.get? b = some o → h₁.get? b = some o := fun b o q => but.extBut b o (Nat.ne_of_lt (Heap.lt_size q)) (Heap.get?_push_of_some _ q)
    have J : Inv (LamX.lamCx X (X.A.deeper (envOfC qg sg s.heap.objs.size g cdg)) (envOfC qg sg s.heap.objs.size g cdg :: X.stack) s1 H1 (fun cls d H' => W cls d y H') scope f c') [] z H1 { s1 with heap := h₁, toks := s1.toks + ([] : List (Str × Value)).length } :=
      LamX.lam_start2 I L I1.env0 room.hd un names kp
    refine PySem.W.kla_codeExpr (wpAny_mono ((inner (X.A.deeper (envOfC qg sg s.heap.objs.size g cdg)) _ s1 H1 _ rfl (room.deeper _)).run [] _ _ H1 Q J rd) ?_ fun e s' q => q)
    rintro v s' ⟨w', H', J', rv, q⟩
    exact ⟨w', H', J'.os, J'.bare, J'.base, J'.hok, rv, q⟩
  have out := passAt tk y
  refine wpAny_call (codeAny_mono run ?_)
  intro r s' q
  match r, q with
  | .error er, q => exact out pinsZ H1 s1 er s' I1 q
  | .ok (.ret u), q => exact I1.after q
  | .ok .next, q => exact False.elim q
  | .ok .brk, q => exact False.elim q
  | .ok .cont, q => exact False.elim q
end

/-- the def that calls what it got (a, its one parameter): TT what it makes of the lambda's reading -/
def Gives (X : Cx) (Ng : List Str) (x : Str) (sg : Scope) (g : Addr) (cdg : Value) (bg : List Stmt) (a q : Str) (k : Nat) (TT : (XK → Hp → VK → Prop) → Hp → VK → Prop) : Prop :=
  ∀ (f c' : Addr) (s : Shared) (H : Hp) (Q : VK) (tl : XK → Hp → VK → Prop), Room k (X.A.deeper (envOfC x sg s.heap.objs.size g cdg)) →
    (∀ (W : WX) (pn : List (Addr × Obj)) (xe : Value → Shared → Prop) (p1 p2 : Pos), Takes ((cxOf CX0 X.prog X.w X.K X.mg X.base Ng x sg g cdg X.A X.stack s H E0).tr pn xe) W →
      PE ((cxOf CX0 X.prog X.w X.K X.mg X.base Ng x sg g cdg X.A X.stack s H E0).tr pn xe) (.Call (.Name a p1) [] [] p2) (fun y HZ Q => y[0]? = some (some (.ref f)) ∧ HZ c' = some (LamX.CodeO c' q) ∧ tl (fun cls d H' => W cls d y H') HZ Q)) →
    H c' = some (LamX.CodeO c' q) → TT tl H Q → ∃ t, PSs (cxOf CX0 X.prog X.w X.K X.mg X.base Ng x sg g cdg X.A X.stack s H E0).nox bg t ∧ t { nx := fun _ H' => Q .non H', rt := Q } (L2.start Ng [.ref f]) H
section
variable {X : Cx}
/-- x(lambda: body) -/
theorem pe_told {T : List (Addr × Str)} {TT : (XK → Hp → VK → Prop) → Hp → VK → Prop} {x a : Str} {g c P : Addr} {k : Nat} {pg : Arguments} {bg : List Stmt} {sg : Scope} {dV kV doc pm cdv ct oc : Value} {an od : Option Addr} {osl : Array (Option Value)} {Ng : List Str}
    {params : Arguments} {body : Expr} {scope : Scope} {t : XK → TE} {p lpos pos : Pos} (hg : Gl X x) (hm : X.mg x = some (.ref g)) (hk : PySem.W.keepIn X.K (.ref g) = true)
    (lk : X.K.lookup g = some ⟨oc, od, .func (PySem.W.fnOf x x pg bg sg dV kV doc pm an cdv ct), osl⟩) (code : PySem.W.codeIn X.K cdv x = true) (hb : Binds X.K (PySem.W.fnOf x x pg bg sg dV kV doc pm an cdv ct) [a] []) (Sg : FnScope Ng [a] sg) (a0 : Ng[0]? = some a) (va : Vis sg a)
    (gives : Gives X Ng x sg g cdv bg a (X.env.qual ++ "<lambda>") (k + 1) TT) (TB : LamX.TabB X.base X.mg c P) (own : X.env.code = .ref c) (mT : (P, X.env.qual ++ "<lambda>") ∈ T) (one : ∀ p ∈ T, p.1 = P → p.2 = X.env.qual ++ "<lambda>")
    (hr : Room (k + 2) X.A) (L : LamX.LamS X.env.scope scope) (nodef : defaultsOf params X.env = ([], []))
    (bare : ∀ (q : Str) (cl : List (Str × Addr)) (pm cv ctv : Value), bindArgs (PySem.W.kla_fn "<lambda>" q params body scope cl pm cv ctv) ⟨[], []⟩ = pure [])
    (inner : ∀ (A : Around) (outer : List Env) (s : Shared) (H : Hp) (E : XK) (f c' : Addr), A.guards = X.A.guards → Room k (A.deeper (LamX.lamEnv X scope s.heap.objs.size f c')) → PE (LamX.lamCx X A outer s H E scope f c') body (t E))
    (hdb : (x == ("__debug__" : Str)) = false := by decide) (hd : (a == ("__debug__" : Str)) = false := by decide) (hcd : (a == ("__classdict__" : Str)) = false := by decide) :
    PE X (.Call (.Name x p) [.Lambda params body scope lpos] [] pos) (LamX.tLam T TT t) := by
  constructor
  intro pins s z H Q I ⟨tabs, h⟩
  apply wpAny_Call_Name_kw
  refine ld_glob I hg hm ?_ hdb
  refine PySem.W.callWith_K (h₀ := X.base) I.ok.mod.kin hk ?_ (by rfl) (by rfl)
  refine Calls.spliced_cons (LamX.lam_make2 I TB own mT one tabs nodef (L.has I.ok) ?_)
  intro f c' pm' ctv H1 s' I1 ext tabs1 made free nofr hco
  refine Calls.spliced_nil ⟨I1.kIn, ?_⟩
  have run : codeAny (model X.prog X.w) X.A (.call (.ref g) ⟨[.ref f], []⟩) (CR CX0 X.stack X.prog X.w H1 s' Q E0) s' := by
    refine LamX.run_ofS (N := Ng) (ps := [a]) (us := [.ref f]) (vs := [.ref f]) lk code Sg hr I1.env0 (hb s' [.ref f] I1.kIn rfl) (.cons rfl .nil) rfl fun room => ?_
    obtain ⟨t', ok, rd⟩ := gives f c' s' H1 Q (fun E H' Q' => t E z H' Q') room (fun W pn xe p1 p2 tk => pe_actAt (i := 0) I1 L made free nofr (bare _ _ _ _ _) tk room (fun A outer s2 H2 E hA hr2 => inner A outer s2 H2 E f c' hA hr2) a0 va hd hcd) hco (h H1 ext tabs1)
    exact ⟨t', ok.nox, rd⟩
  refine wpAny_call (codeAny_mono run ?_)
  intro r s2 q
  match r, q with
  | .error er, q => exact False.elim q
  | .ok (.ret u), q => exact I1.after q
  | .ok .next, q => exact False.elim q
  | .ok .brk, q => exact False.elim q
  | .ok .cont, q => exact False.elim q
end
end GL
set_option maxHeartbeats 8000000
/-! How lists of data are shown: bounds. -/
namespace GL
open PySem PySem.Spec PyProof.Rows L2
theorem textFrom_le : ∀ (ts : List Str) (k : Nat) (acc : Str), (textFrom k acc ts).length ≤ acc.length + piled ts
  | [], k, acc => by
    show acc.length ≤ _
    omega
  | t :: r, k, acc => by
    have ih := textFrom_le r (k + 1) (acc ++ (if k > 0 then ", " else "" : String) ++ t)
    have e : (acc ++ (if k > 0 then ", " else "" : String) ++ t).length ≤ acc.length + 2 + t.length := by
      rw [strLen_append, strLen_append]
      split
      · show acc.length + 2 + t.length ≤ _
        omega
      · show acc.length + 0 + t.length ≤ _
        omega
    rw [piled_cons]
    show (textFrom (k + 1) _ r).length ≤ _
    omega
theorem listText_le (ts : List Str) : (listText ts).length ≤ piled ts + 2 := by
  unfold listText
  rw [strLen_append]
  have h := textFrom_le ts 0 "["
  have e1 : ("[" : Str).length = 1 := rfl
  have e2 : ("]" : Str).length = 1 := rfl
  omega
/-- how a list of data is shown: bounds -/
theorem shown_list {ds : List PyData} {n m : Nat} (h : ∀ d ∈ ds, d.showable = true ∧ d.depth ≤ n ∧ d.shown.length ≤ m) : (PyData.list ds).showable = true ∧ (PyData.list ds).depth ≤ n + 1 ∧ (PyData.list ds).shown.length ≤ ds.length * (m + 2) + 2 := by
  have a : PyData.showableAll ds = true ∧ PyData.depthAll ds ≤ n ∧ piled (PyData.shownAll ds) ≤ ds.length * (m + 2) := by
    induction ds with
    | nil => exact ⟨rfl, Nat.zero_le _, Nat.zero_le _⟩
    | cons d ds ih =>
      obtain ⟨h1, h2, h3⟩ := h d List.mem_cons_self
      obtain ⟨g1, g2, g3⟩ := ih fun e he => h e (List.mem_cons_of_mem _ he)
      refine ⟨?_, ?_, ?_⟩
      · simp [PyData.showableAll, h1, g1]
      · simp only [PyData.depthAll]
        omega
      · simp only [PyData.shownAll]
        rw [piled_cons, List.length_cons, Nat.add_mul]
        omega
  refine ⟨by simp [PyData.showable, a.1], ?_, ?_⟩
  · simp only [PyData.depth]
    omega
  · simp only [PyData.shown]
    have := listText_le (PyData.shownAll ds)
    omega
theorem shown_int {i : Int} (h : i.natAbs.log2 < 1920) : (PyData.int i).showable = true ∧ (PyData.int i).depth ≤ 1 ∧ (PyData.int i).shown.length ≤ 1921 := by
  refine ⟨by simp [PyData.showable, h], by simp [PyData.depth], ?_⟩
  simp only [PyData.shown]
  rw [PySem.ofString_length]
  exact int_text_length_le (by decide) h
theorem shown_two {i j : Int} (hi : i.natAbs.log2 < 1920) (hj : j.natAbs.log2 < 1920) : (PyData.list [.int i, .int j]).showable = true ∧ (PyData.list [.int i, .int j]).depth ≤ 40 ∧ (PyData.list [.int i, .int j]).shown.length ≤ sizeLine := by
  obtain ⟨a, b, c⟩ := shown_list (ds := [.int i, .int j]) (n := 1) (m := 1921) (by
    intro d hd
    simp only [List.mem_cons, List.not_mem_nil, or_false] at hd
    rcases hd with rfl | rfl
    · exact shown_int hi
    · exact shown_int hj)
  refine ⟨a, by omega, ?_⟩
  rw [sizeLine_eq]
  have : ([PyData.int i, .int j] : List PyData).length = 2 := rfl
  rw [this] at c
  omega
/-! ### repr of data of any kind -/
def rReprV (K : PySem.W.Frag) : List V → Hp → VK → Prop := fun xs H Q => ∃ (v : V) (d : PyData), xs = [v] ∧ Dq K H v d ∧ d.showable = true ∧ d.depth ≤ 40 ∧ d.shown.length ≤ sizeLine ∧ Q (.str d.shown) H
theorem call_reprV {X : Cx} (S : SysK X.K) (gd : X.A.guards = some []) (hu : X.A.units + 64 < cLine) : CallR X (.builtin "repr") (rReprV X.K) := by
  intro pins s z H xs us Q I r h
  obtain ⟨v, d, rfl, hd, sh, dp, sz, q⟩ := h
  obtain ⟨u, rfl, r1⟩ := vals1 r
  have ref : ∀ {a : Addr}, v = .ref a → wpAny (model X.prog X.w) X.A (PySem.call (.builtin "repr") [u]) (EP X pins z Q) X.xe s := by
    rintro a rfl
    exact call_reprD S gd hu pins s z H [.ref a] [u] Q I (.cons r1 .nil) ⟨a, d, rfl, hd, sh, dp, sz, q⟩
  cases hd with
  | non =>
    cases r1
    simp only [PyData.shown] at q
    exact PySem.P.repr_of_none ⟨.str _, H, I.tok _, ⟨_, rfl⟩, q⟩
  | bl b =>
    cases r1
    simp only [PyData.shown] at q
    exact PySem.P.repr_of_bool ⟨.str _, H, I.tok _, ⟨_, rfl⟩, q⟩
  | int i =>
    obtain ⟨t, rfl⟩ := r1
    simp only [PyData.shown] at q
    exact PySem.P.repr_of_int (by simpa [PyData.showable] using sh) ⟨.str _, H, I.tok _, ⟨_, rfl⟩, q⟩
  | str x =>
    obtain ⟨t, rfl⟩ := r1
    simp only [PyData.shown] at q sz
    exact PySem.P.repr_of_str ⟨.str _, H, I.tok _, ⟨_, rfl⟩, q⟩ sz
  | lst _ _ => exact ref rfl
  | tup _ _ => exact ref rfl
  | dct _ _ => exact ref rfl
end GL
set_option maxHeartbeats 1000000
/-! == and != of tuples and lists whose items are compared by own methods: which of the two answers is given. -/
namespace PySem
namespace GE
open PySem.SeqAt
open AutoSeq1 (wpAny_loadPart')
open MeetsSeq MeetsSeq2 MeetsSeq3 SeqRoads2
section
variable {prog : Program} {w : World} {A : Around} {R : Result → Shared → Prop}
/-- one pair after the other: es i is what the i-th one gives; F holds at the end -/
def Turns (prog : Program) (w : World) (A : Around) (E : Value → Shared → Prop) (xs ys : Array Value) (es : Nat → Bool) (J : Nat → Shared → Prop) (F : Shared → Prop) : Prop :=
  ∀ i (p : i < xs.size) (q : i < ys.size) (s : Shared), J i s → wpAny (model prog w) A.in1 (eqBool xs[i] ys[i]) (fun r s' => r = es i ∧ F s' ∧ (es i = true → J (i + 1) s')) E s
def allB (m n : Nat) (es : Nat → Bool) (i : Nat) : Bool := ((List.range (min m n)).drop i).all es && m == n
theorem allB_step {m n i : Nat} {es : Nat → Bool} (h : i < min m n) : allB m n es i = (es i && allB m n es (i + 1)) := by
  have e : (List.range (min m n)).drop i = i :: (List.range (min m n)).drop (i + 1) := by simp [List.drop_eq_getElem_cons, h]
  unfold allB
  rw [e, List.all_cons, Bool.and_assoc]
theorem allB_end {m n i : Nat} {es : Nat → Bool} (h : min m n ≤ i) : allB m n es i = (m == n) := by
  unfold allB
  rw [List.drop_of_length_le (by simpa using h), List.all_nil, Bool.true_and]
theorem tup_eqB {l b : Addr} {xs ys : Array Value} {n m : Nat} {dd ee : Option Addr} {sl tl : Array (Option Value)} {J : Nat → Shared → Prop} {F : Shared → Prop} {es : Nat → Bool} (turn : Turns prog w A (fun e s' => R (.error e) s') xs ys es J F) (hJ : ∀ i s, J i s → F s)
    (fin : ∀ s, F s → R (.ok (.ret (.bool (allB xs.size ys.size es 0)))) s) {s : Shared} (hl : s.heap.get? l = some { cls := .type "tuple", dict := dd, data := .seq xs n, slots := sl }) (hb : s.heap.get? b = some { cls := .type "tuple", dict := ee, data := .seq ys m, slots := tl }) (h : J 0 s) :
    wpAny (model prog w) A.in1 (Builtin.«tuple.__eq__» ⟨[.ref l, .ref b], []⟩) (GQ.FinOf prog w A R) (fun e s' => R (.error e) s') s := by
  have f2 := AutoSeq1.sub_tuple_tuple
  have zl : (xs.toList.zip ys.toList).length = min xs.size ys.size := by simp
  have h0 := h
  generalize hk : allB xs.size ys.size es 0 = k at fin
  obtain ⟨hp, g, d, tk, os⟩ := s
  wp_walk using wpAny_loadPart' hl, wpAny_loadPart' hb, wpAny_forIn_list _ (fun rest c s' => c.1 = none ∧ ∃ i, rest = (xs.toList.zip ys.toList).drop i ∧ allB xs.size ys.size es i = k ∧ J i s') _
  case turn =>
    rintro ⟨y, x⟩ rest c s' ⟨hc, i, hz, hi, hJi⟩
    have lt : i < (xs.toList.zip ys.toList).length := by
      apply Nat.lt_of_not_le
      intro z
      rw [List.drop_of_length_le z] at hz
      cases hz
    have lm : i < min xs.size ys.size := zl ▸ lt
    have p : i < xs.size := Nat.lt_of_lt_of_le lm (Nat.min_le_left _ _)
    have q : i < ys.size := Nat.lt_of_lt_of_le lm (Nat.min_le_right _ _)
    rw [List.drop_eq_getElem_cons lt] at hz
    injection hz with e1 e2
    have ey : y = xs[i] := by simpa using congrArg Prod.fst e1
    have ex : x = ys[i] := by simpa using congrArg Prod.snd e1
    subst ey ex
    rw [allB_step lm] at hi
    refine wpAny_bind (wpAny_mono (turn i p q s' hJi) (fun r s2 z => ?_) fun _ _ z => z)
    obtain ⟨rfl, hF, hJ2⟩ := z
    cases he : es i with
    | true =>
      rw [he, Bool.true_and] at hi
      wp_walk
      exact ⟨rfl, i + 1, e2, hi, hJ2 he⟩
    | false =>
      rw [he, Bool.false_and] at hi
      subst hi
      wp_walk
      exact fin _ hF
  case fin =>
    rintro ⟨c1, c2⟩ s' ⟨hc, i, hz, hi, hJi⟩
    simp only at hc
    subst hc
    have ge : min xs.size ys.size ≤ i := by
      rw [← zl]
      apply Nat.le_of_not_lt
      intro z
      rw [List.drop_eq_getElem_cons z] at hz
      cases hz
    rw [allB_end ge] at hi
    subst hi
    wp_walk
    simpa [Builtin.Tuple.tupleCompareSizes] using fin _ (hJ _ _ hJi)
  case h =>
    exact ⟨rfl, 0, rfl, hk, h0⟩
theorem tup_neB {l b : Addr} {xs ys : Array Value} {n m : Nat} {dd ee : Option Addr} {sl tl : Array (Option Value)} {J : Nat → Shared → Prop} {F : Shared → Prop} {es : Nat → Bool} (turn : Turns prog w A (fun e s' => R (.error e) s') xs ys es J F) (hJ : ∀ i s, J i s → F s)
    (fin : ∀ s, F s → R (.ok (.ret (.bool !(allB xs.size ys.size es 0)))) s) {s : Shared} (hl : s.heap.get? l = some { cls := .type "tuple", dict := dd, data := .seq xs n, slots := sl }) (hb : s.heap.get? b = some { cls := .type "tuple", dict := ee, data := .seq ys m, slots := tl }) (h : J 0 s) :
    wpAny (model prog w) A.in1 (Builtin.«tuple.__ne__» ⟨[.ref l, .ref b], []⟩) (GQ.FinOf prog w A R) (fun e s' => R (.error e) s') s := by
  have f2 := AutoSeq1.sub_tuple_tuple
  have zl : (xs.toList.zip ys.toList).length = min xs.size ys.size := by simp
  have h0 := h
  generalize hk : allB xs.size ys.size es 0 = k at fin
  obtain ⟨hp, g, d, tk, os⟩ := s
  wp_walk using wpAny_loadPart' hl, wpAny_loadPart' hb, wpAny_forIn_list _ (fun rest c s' => c.1 = none ∧ ∃ i, rest = (xs.toList.zip ys.toList).drop i ∧ allB xs.size ys.size es i = k ∧ J i s') _
  case turn =>
    rintro ⟨y, x⟩ rest c s' ⟨hc, i, hz, hi, hJi⟩
    have lt : i < (xs.toList.zip ys.toList).length := by
      apply Nat.lt_of_not_le
      intro z
      rw [List.drop_of_length_le z] at hz
      cases hz
    have lm : i < min xs.size ys.size := zl ▸ lt
    have p : i < xs.size := Nat.lt_of_lt_of_le lm (Nat.min_le_left _ _)
    have q : i < ys.size := Nat.lt_of_lt_of_le lm (Nat.min_le_right _ _)
    rw [List.drop_eq_getElem_cons lt] at hz
    injection hz with e1 e2
    have ey : y = xs[i] := by simpa using congrArg Prod.fst e1
    have ex : x = ys[i] := by simpa using congrArg Prod.snd e1
    subst ey ex
    rw [allB_step lm] at hi
    refine wpAny_bind (wpAny_mono (turn i p q s' hJi) (fun r s2 z => ?_) fun _ _ z => z)
    obtain ⟨rfl, hF, hJ2⟩ := z
    cases he : es i with
    | true =>
      rw [he, Bool.true_and] at hi
      wp_walk
      exact ⟨rfl, i + 1, e2, hi, hJ2 he⟩
    | false =>
      rw [he, Bool.false_and] at hi
      subst hi
      wp_walk
      exact fin _ hF
  case fin =>
    rintro ⟨c1, c2⟩ s' ⟨hc, i, hz, hi, hJi⟩
    simp only at hc
    subst hc
    have ge : min xs.size ys.size ≤ i := by
      rw [← zl]
      apply Nat.le_of_not_lt
      intro z
      rw [List.drop_eq_getElem_cons z] at hz
      cases hz
    rw [allB_end ge] at hi
    subst hi
    wp_walk
    simpa [Builtin.Tuple.tupleCompareSizes, bne] using fin _ (hJ _ _ hJi)
  case h =>
    exact ⟨rfl, 0, rfl, hk, h0⟩
/-- the two lists are read anew at each turn -/
def LTurns (prog : Program) (w : World) (A : Around) (E : Value → Shared → Prop) (l b : Addr) (N : Nat) (es : Nat → Bool) (J : Nat → Shared → Prop) (F : Shared → Prop) : Prop :=
  ∀ i (s : Shared), J i s → ∃ (xs ys : Array Value) (n m : Nat), s.heap.get? l = some { cls := .type "list", data := .seq xs n } ∧ s.heap.get? b = some { cls := .type "list", data := .seq ys m } ∧ xs.size = N ∧ ys.size = N ∧
    ∀ (p : i < xs.size) (q : i < ys.size), wpAny (model prog w) A.in1 (eqBool xs[i] ys[i]) (fun r s' => r = es i ∧ F s' ∧ (es i = true → J (i + 1) s')) E s
/-- both can be read -/
def LRead (l b : Addr) (N : Nat) (F : Shared → Prop) : Prop := ∀ s : Shared, F s → ∃ (xs ys : Array Value) (n m : Nat), s.heap.get? l = some { cls := .type "list", data := .seq xs n } ∧ s.heap.get? b = some { cls := .type "list", data := .seq ys m } ∧ xs.size = N ∧ ys.size = N
theorem lst_loopeqB {l b : Addr} {N : Nat} {J : Nat → Shared → Prop} {F : Shared → Prop} {es : Nat → Bool} {k : Bool} (turn : LTurns prog w A (fun e s' => R (.error e) s') l b N es J F) (rd : LRead l b N F) (hJF : ∀ i s, J i s → F s) (fin : ∀ s, F s → R (.ok (.ret (.bool k))) s) (c : Nat) :
    ∀ i : Nat, N - i = c → i ≤ N → allB N N es i = k → ∀ s, J i s → wpAny (model prog w) A.in1 (Builtin.«list.__eq__.loop» ⟨[.ref l, .ref b, rawInt i, rawInt 2], []⟩) (GQ.FinOf prog w A R) (fun e s' => R (.error e) s') s := by
  induction c with
  | zero =>
    intro i hc hi hk s hJ
    obtain ⟨xs, ys, n, m, hl, hb, s1, s2, _⟩ := turn i s hJ
    have last : i = N := by omega
    have hq := fin s (hJF _ _ hJ)
    rw [allB_end (by omega)] at hk
    subst hk
    obtain ⟨hp, g, d, tk, os⟩ := s
    wp_walk using wpAny_loadPart' hl, wpAny_loadPart' hb
    have o1 : xs[((i : Nat) : Int).toNat]? = none := by simp; omega
    have o2 : ys[((i : Nat) : Int).toNat]? = none := by simp; omega
    rw [o1, o2]
    wp_walk using wpAny_loadPart' hl, wpAny_loadPart' hb
    show R (.ok (.ret (.bool (xs.size == ys.size)))) _
    rw [s1, s2]
    simpa using hq
  | succ c ih =>
    intro i hc hi hk s hJ
    obtain ⟨xs, ys, n, m, hl, hb, s1, s2, one⟩ := turn i s hJ
    have p : i < xs.size := by omega
    have q : i < ys.size := by omega
    have ht := one p q
    rw [allB_step (by omega)] at hk
    obtain ⟨hp, g, d, tk, os⟩ := s
    wp_walk using wpAny_loadPart' hl, wpAny_loadPart' hb
    have o1 : xs[((i : Nat) : Int).toNat]? = some xs[i] := by simp [p]
    have o2 : ys[((i : Nat) : Int).toNat]? = some ys[i] := by simp [q]
    have nx : ((i : Int) + 1) = ((i + 1 : Nat) : Int) := by omega
    rw [o1, o2]
    refine wpAny_bind (wpAny_mono ht (fun r s2 z => ?_) fun _ _ z => z)
    obtain ⟨rfl, hF, hJ2⟩ := z
    cases he : es i with
    | true =>
      rw [he, Bool.true_and] at hk
      have more := ih (i + 1) (by omega) (by omega) hk s2 (hJ2 he)
      obtain ⟨hp2, g2, d2, tk2, os2⟩ := s2
      wp_walk
      rw [nx]
      refine ⟨plainId_quiet plain_eq_loop _, codeAny_builtin entry_eq_loop ?_⟩
      rw [Around.under_plainId plain_eq_loop _]
      exact more
    | false =>
      rw [he, Bool.false_and] at hk
      subst hk
      obtain ⟨xs2, ys2, n2, m2, hl2, hb2, t1, t2⟩ := rd s2 hF
      have hq := fin s2 hF
      obtain ⟨hp2, g2, d2, tk2, os2⟩ := s2
      wp_walk using wpAny_loadPart' hl2, wpAny_loadPart' hb2
      have u1 : xs2[((i : Nat) : Int).toNat]? = some (xs2[i]'(by omega)) := by simp
      have u2 : ys2[((i : Nat) : Int).toNat]? = some (ys2[i]'(by omega)) := by simp
      rw [u1, u2]
      wp_walk
      exact hq
theorem lst_eqB {l b : Addr} {N : Nat} {J : Nat → Shared → Prop} {F : Shared → Prop} {es : Nat → Bool} {k : Bool} (turn : LTurns prog w A (fun e s' => R (.error e) s') l b N es J F) (rd : LRead l b N F) (hJF : ∀ i s, J i s → F s) (fin : ∀ s, F s → R (.ok (.ret (.bool k))) s) (hk : allB N N es 0 = k) {s : Shared} (h : J 0 s) :
    wpAny (model prog w) A.in1 (Builtin.«list.__eq__» ⟨[.ref l, .ref b], []⟩) (GQ.FinOf prog w A R) (fun e s' => R (.error e) s') s := by
  obtain ⟨xs, ys, n, m, hl, hb, s1, s2, _⟩ := turn 0 s h
  have more := lst_loopeqB (A := A) turn rd hJF fin _ 0 rfl (Nat.zero_le _) hk s h
  obtain ⟨hp, g, d, tk, os⟩ := s
  have f3 := AutoSeq1.sub_list_list
  have same : ¬ (xs.size != ys.size) = true := by simp [s1, s2]
  wp_walk using wpAny_loadPart' hl, wpAny_loadPart' hb
  refine ⟨plainId_quiet plain_eq_loop _, codeAny_builtin entry_eq_loop ?_⟩
  rw [Around.under_plainId plain_eq_loop _]
  exact more
theorem lst_loopneB {l b : Addr} {N : Nat} {J : Nat → Shared → Prop} {F : Shared → Prop} {es : Nat → Bool} {k : Bool} (turn : LTurns prog w A (fun e s' => R (.error e) s') l b N es J F) (rd : LRead l b N F) (hJF : ∀ i s, J i s → F s) (fin : ∀ s, F s → R (.ok (.ret (.bool !k))) s) (c : Nat) :
    ∀ i : Nat, N - i = c → i ≤ N → allB N N es i = k → ∀ s, J i s → wpAny (model prog w) A.in1 (Builtin.«list.__eq__.loop» ⟨[.ref l, .ref b, rawInt i, rawInt 3], []⟩) (GQ.FinOf prog w A R) (fun e s' => R (.error e) s') s := by
  induction c with
  | zero =>
    intro i hc hi hk s hJ
    obtain ⟨xs, ys, n, m, hl, hb, s1, s2, _⟩ := turn i s hJ
    have last : i = N := by omega
    have hq := fin s (hJF _ _ hJ)
    rw [allB_end (by omega)] at hk
    subst hk
    obtain ⟨hp, g, d, tk, os⟩ := s
    wp_walk using wpAny_loadPart' hl, wpAny_loadPart' hb
    have o1 : xs[((i : Nat) : Int).toNat]? = none := by simp; omega
    have o2 : ys[((i : Nat) : Int).toNat]? = none := by simp; omega
    rw [o1, o2]
    wp_walk using wpAny_loadPart' hl, wpAny_loadPart' hb
    show R (.ok (.ret (.bool (xs.size != ys.size)))) _
    rw [s1, s2]
    simpa using hq
  | succ c ih =>
    intro i hc hi hk s hJ
    obtain ⟨xs, ys, n, m, hl, hb, s1, s2, one⟩ := turn i s hJ
    have p : i < xs.size := by omega
    have q : i < ys.size := by omega
    have ht := one p q
    rw [allB_step (by omega)] at hk
    obtain ⟨hp, g, d, tk, os⟩ := s
    wp_walk using wpAny_loadPart' hl, wpAny_loadPart' hb
    have o1 : xs[((i : Nat) : Int).toNat]? = some xs[i] := by simp [p]
    have o2 : ys[((i : Nat) : Int).toNat]? = some ys[i] := by simp [q]
    have nx : ((i : Int) + 1) = ((i + 1 : Nat) : Int) := by omega
    rw [o1, o2]
    refine wpAny_bind (wpAny_mono ht (fun r s2 z => ?_) fun _ _ z => z)
    obtain ⟨rfl, hF, hJ2⟩ := z
    cases he : es i with
    | true =>
      rw [he, Bool.true_and] at hk
      have more := ih (i + 1) (by omega) (by omega) hk s2 (hJ2 he)
      obtain ⟨hp2, g2, d2, tk2, os2⟩ := s2
      wp_walk
      rw [nx]
      refine ⟨plainId_quiet plain_eq_loop _, codeAny_builtin entry_eq_loop ?_⟩
      rw [Around.under_plainId plain_eq_loop _]
      exact more
    | false =>
      rw [he, Bool.false_and] at hk
      subst hk
      obtain ⟨xs2, ys2, n2, m2, hl2, hb2, t1, t2⟩ := rd s2 hF
      have hq := fin s2 hF
      obtain ⟨hp2, g2, d2, tk2, os2⟩ := s2
      wp_walk using wpAny_loadPart' hl2, wpAny_loadPart' hb2
      have u1 : xs2[((i : Nat) : Int).toNat]? = some (xs2[i]'(by omega)) := by simp
      have u2 : ys2[((i : Nat) : Int).toNat]? = some (ys2[i]'(by omega)) := by simp
      rw [u1, u2]
      wp_walk
      exact hq
theorem lst_neB {l b : Addr} {N : Nat} {J : Nat → Shared → Prop} {F : Shared → Prop} {es : Nat → Bool} {k : Bool} (turn : LTurns prog w A (fun e s' => R (.error e) s') l b N es J F) (rd : LRead l b N F) (hJF : ∀ i s, J i s → F s) (fin : ∀ s, F s → R (.ok (.ret (.bool !k))) s) (hk : allB N N es 0 = k) {s : Shared} (h : J 0 s) :
    wpAny (model prog w) A.in1 (Builtin.«list.__ne__» ⟨[.ref l, .ref b], []⟩) (GQ.FinOf prog w A R) (fun e s' => R (.error e) s') s := by
  obtain ⟨xs, ys, n, m, hl, hb, s1, s2, _⟩ := turn 0 s h
  have more := lst_loopneB (A := A) turn rd hJF fin _ 0 rfl (Nat.zero_le _) hk s h
  obtain ⟨hp, g, d, tk, os⟩ := s
  have f3 := AutoSeq1.sub_list_list
  have same : ¬ (xs.size != ys.size) = true := by simp [s1, s2]
  wp_walk using wpAny_loadPart' hl, wpAny_loadPart' hb
  refine ⟨plainId_quiet plain_eq_loop _, codeAny_builtin entry_eq_loop ?_⟩
  rw [Around.under_plainId plain_eq_loop _]
  exact more
end
end GE
end PySem
set_option maxHeartbeats 1000000
/-! == and != of tuples and lists of own instances, as rules: which answer is given. -/
namespace GL
open PySem PySem.Spec PyProof.Rows L2
abbrev DB : Type := V → V → Bool → Hp → Prop
def MonB (D : DB) : Prop := ∀ x y b H H', Same H H' → D x y b H → D x y b H'
/-- == inside a builtin gives what D says -/
def EqB (X : Cx) (n : Nat) (D : DB) : Prop :=
  ∀ (A : Around) (pins : List (Addr × Obj)) (s : Shared) (σ : L2.St) (H : Hp) (x y : V) (u v : Value) (b : Bool), Sub X n A → Inv X pins σ H s → L2.RelV x u → L2.RelV y v → D x y b H →
    wpAny (model X.prog X.w) A (eqBool u v) (fun r s' => r = b ∧ ∃ H', Inv X pins σ H' s' ∧ Same H H') X.xe s
/-- == (op = .Eq), != (op = .NotEq) as comparisons; g: what is made of D's word -/
def RcB (X : Cx) (n : Nat) (op : CmpOp) (g : Bool → Bool) (D : DB) : Prop :=
  ∀ (A : Around) (pins : List (Addr × Obj)) (s : Shared) (σ : L2.St) (H : Hp) (x y : V) (u v : Value) (b : Bool), Sub X n A → Inv X pins σ H s → L2.RelV x u → L2.RelV y v → D x y b H →
    wpAny (model X.prog X.w) A (richCompare op u v) (fun r s' => r = .bool (g b) ∧ ∃ H', Inv X pins σ H' s' ∧ Same H H') X.xe s
section
variable {X : Cx} {n m : Nat} {D D' : DB}
theorem EqB.mono (h : EqB X n D) (l : n ≤ m) : EqB X m D := fun A pins s σ H x y u v b sb => h A pins s σ H x y u v b (sb.mono l)
theorem EqB.or (h : EqB X n D) (h' : EqB X n D') : EqB X n (fun x y b H => D x y b H ∨ D' x y b H) := by
  intro A pins s σ H x y u v b sb I rx ry d
  rcases d with d | d
  · exact h A pins s σ H x y u v b sb I rx ry d
  · exact h' A pins s σ H x y u v b sb I rx ry d
theorem MonB.or (h : MonB D) (h' : MonB D') : MonB (fun x y b H => D x y b H ∨ D' x y b H) := fun x y b H H' k d => d.imp (h x y b H H' k) (h' x y b H H' k)
/-- flat things -/
def FlatB : DB := fun x y b _ => flatV x = true ∧ flatV y = true ∧ b = eqV x y
theorem monB_flat : MonB FlatB := fun _ _ _ _ _ _ d => d
theorem eqB_flat : EqB X 0 FlatB := by
  intro A pins s σ H x y u v b sb I rx ry d
  obtain ⟨fx, fy, rfl⟩ := d
  exact eqAt_V (A := A) (s := s) rx ry fx fy X.prog X.w X.xe _ ⟨rfl, H, I, fun _ _ e => e⟩
/-- the same thing is equal to itself -/
theorem RcB.eqB (h : RcB X n .Eq id D) (hr : ∀ x y b H, D x y b H → ∃ a c, x = .ref a ∧ y = .ref c ∧ (a = c → b = true)) : EqB X n D := by
  intro A pins s σ H x y u v b sb I rx ry d
  obtain ⟨a, c, rfl, rfl, same⟩ := hr _ _ _ _ d
  cases (show u = Value.ref a from rx)
  cases (show v = Value.ref c from ry)
  by_cases e : a = c
  · cases e
    rw [same rfl]
    exact SeqAt.EqAt.same (A := A) (s := s) (.ref a) X.prog X.w X.xe _ ⟨rfl, H, I, fun _ _ e => e⟩
  · refine GQ.eqBool_refG e (wpAny_mono (h A pins s σ H (V.ref a) (V.ref c) _ _ b sb I rfl rfl d) (fun r s' z => ?_) fun _ _ z => z)
    obtain ⟨rfl, z⟩ := z
    exact ⟨b, rfl, rfl, z⟩
/-- two instances of one class, by its own __eq__ -/
def InsB (C : Addr) (sp : Sp) (E : XK) : DB := fun x y b H => ∃ a c dx dy fs gs, x = .ref a ∧ y = .ref c ∧ H a = some (.ins C dx fs) ∧ H c = some (.ins C dy gs) ∧ (a = c → b = true) ∧ sp [x, y] H (fun v H' => v = .bl b ∧ Same H H') E
theorem rcB_ins {CX : CXT} {C f : Addr} {sp : Sp} {E : XK} (B : GL.OwnEq X.K C f) (F : FnR X.prog X.w X.K X.mg X.base CX n f sp) (hx : Passes CX X E) : RcB X n .Eq id (InsB C sp E) := by
  intro A pins s σ H x y u v b sb I rx ry d
  obtain ⟨a, c, dx, dy, fs, gs, rfl, rfl, ha, hc, _, q⟩ := d
  cases (show u = Value.ref a from rx)
  cases (show v = Value.ref c from ry)
  obtain ⟨ox, od, J⟩ := inst_of I ha
  obtain ⟨oy, oe, J'⟩ := inst_of I hc
  have e0 : Env0 X.prog X.w X.K X.mg X.base A X.stack s H := by
    have e := I.env0
    exact { e with frames := sb.fr.trans e.frames }
  have run := F A X.stack s H [.ref a, .ref c] [.ref a, .ref c] _ E sb.room e0 (Paired.cons (a := V.ref a) (b := Value.ref a) rfl (Paired.cons (a := V.ref c) (b := Value.ref c) rfl .nil)) q
  have z : wpAny (model X.prog X.w) A (PySem.call (.ref f) [.ref a, .ref c]) (PySem.W.CmpBack fun r s' => r = .bool b ∧ ∃ H', Inv X pins σ H' s' ∧ Same H H') X.xe s := by
    refine wpAny_call (codeAny_mono run fun r s' z => ?_)
    match r, z with
    | .error er, z => exact hx pins σ H s er s' I z
    | .ok .next, z => exact False.elim z
    | .ok .brk, z => exact False.elim z
    | .ok .cont, z => exact False.elim z
    | .ok (.ret w), z =>
      obtain ⟨z1, H', I', rz, rfl, k⟩ := I.after z
      cases (show w = Value.bool b from rz)
      exact ⟨rfl, H', I', k⟩
  rcases s with ⟨hp, g, dd, tk, os⟩
  have e : PySem.W.findIn X.K (.ref C) (cmpInfo .Eq).2.1 = some (some (.ref f)) := B.m.at_
  exact PySem.GO.cmp_any (op := .Eq) (.inl rfl) sb.room.units0 I.kIn J J'.type (by simp [PySem.W.notFirst]) e (PySem.W.bind_fn I.kIn _ (isFn_ty B.m.fn)) z
theorem eqB_ins {CX : CXT} {C f : Addr} {sp : Sp} {E : XK} (B : GL.OwnEq X.K C f) (F : FnR X.prog X.w X.K X.mg X.base CX n f sp) (hx : Passes CX X E) : EqB X n (InsB C sp E) :=
  (rcB_ins B F hx).eqB fun x y b H d => by
    obtain ⟨a, c, dx, dy, fs, gs, e1, e2, _, _, same, _⟩ := d
    exact ⟨a, c, e1, e2, same⟩

/-! ### item by item -/
def ItemsB (D : DB) (xs ys : List V) (es : Nat → Bool) (H : Hp) : Prop := ∀ (i : Nat) x y, (∀ j, j < i → es j = true) → xs[i]? = some x → ys[i]? = some y → D x y (es i) H
/-- as far as the items ahead were equal -/
def LoopB (X : Cx) (pins : List (Addr × Obj)) (σ : L2.St) (H : Hp) (es : Nat → Bool) (i : Nat) (s' : Shared) : Prop := LoopI X pins σ H s' ∧ ∀ j, j < i → es j = true
theorem ItemsB.same (hD : MonB D) {xs ys : List V} {es : Nat → Bool} {H H' : Hp} (k : Same H H') (p : ItemsB D xs ys es H) : ItemsB D xs ys es H' := fun i x y h0 h1 h2 => hD _ _ _ _ _ k (p i x y h0 h1 h2)
theorem one_turn (hD : MonB D) (h : EqB X n D) {A : Around} (sb : Sub X (n + 1) A) {pins : List (Addr × Obj)} {σ : L2.St} {H : Hp} {xs ys : List V} {es : Nat → Bool} {us vs : List Value} (p : ItemsB D xs ys es H) (r : Vals xs us) (r2 : Vals ys vs)
    (i : Nat) (h1 : i < us.toArray.size) (h2 : i < vs.toArray.size) (s' : Shared) (l : LoopB X pins σ H es i s') :
    wpAny (model X.prog X.w) A.in1 (eqBool us.toArray[i] vs.toArray[i]) (fun r s2 => r = es i ∧ LoopI X pins σ H s2 ∧ (es i = true → LoopB X pins σ H es (i + 1) s2)) X.xe s' := by
  obtain ⟨⟨H1, I1, k1⟩, ahead⟩ := l
  have l1 : i < us.length := by simpa using h1
  have l2 : i < vs.length := by simpa using h2
  have m1 : i < xs.length := by rw [r.length]; exact l1
  have m2 : i < ys.length := by rw [r2.length]; exact l2
  obtain ⟨u, hu, ru⟩ := r.get (List.getElem?_eq_getElem m1)
  obtain ⟨v, hv, rv⟩ := r2.get (List.getElem?_eq_getElem m2)
  have eu : us.toArray[i] = u := by
    rw [List.getElem?_eq_getElem l1] at hu
    simpa using Option.some.inj hu
  have ev : vs.toArray[i] = v := by
    rw [List.getElem?_eq_getElem l2] at hv
    simpa using Option.some.inj hv
  rw [eu, ev]
  refine wpAny_mono (h A.in1 pins s' σ H1 _ _ u v _ sb.in1 I1 ru rv (hD _ _ _ _ _ k1 (p i _ _ ahead (List.getElem?_eq_getElem m1) (List.getElem?_eq_getElem m2)))) (fun r s2 z => ?_) fun _ _ z => z
  obtain ⟨rfl, H2, I2, k2⟩ := z
  refine ⟨rfl, ⟨H2, I2, k1.trans k2⟩, fun e => ⟨⟨H2, I2, k1.trans k2⟩, fun j hj => ?_⟩⟩
  by_cases q : j = i
  · rw [q]
    exact e
  · exact ahead j (by omega)
def TupB (K : PySem.W.Frag) (D : DB) : DB := fun x y b H => ∃ a c xs ys es, x = .ref a ∧ y = .ref c ∧ SqT K H a xs ∧ SqT K H c ys ∧ ItemsB D xs ys es H ∧ b = PySem.GE.allB xs.length ys.length es 0
theorem rcB_tup (hD : MonB D) (h : EqB X n D) : RcB X (n + 1) .Eq id (TupB X.K D) := by
  intro A pins s σ H x y u v b sb I rx ry d
  obtain ⟨a, c, xs, ys, es, rfl, rfl, ha, hc, p, rfl⟩ := d
  cases (show u = Value.ref a from rx)
  cases (show v = Value.ref c from ry)
  obtain ⟨us, r, e, z⟩ := I.tuple ha
  obtain ⟨vs, r2, e2, z2⟩ := I.tuple hc
  have s1 : us.toArray.size = xs.length := by rw [List.size_toArray, ← r.length]
  have s2 : vs.toArray.size = ys.length := by rw [List.size_toArray, ← r2.length]
  obtain ⟨⟨cls, dd, data, sl⟩, ho, hc1, k1, hd1⟩ := id e
  obtain ⟨⟨cls2, dd2, data2, sl2⟩, ho2, hc2, k2, hd2⟩ := id e2
  dsimp only at hc1 hd1 hc2 hd2
  subst hc1 hd1 hc2 hd2
  refine wpAny_richCompare_same_room (op := .Eq) ⟨_, ho, rfl⟩ ⟨_, ho2, rfl⟩ F.slot_tuple_eq (GQ.call_here F.slot_tuple_eq ⟨_, ho, rfl⟩ F.entry_tuple_eq (F.args_tuple_eq_2 _ _) ?_) sb.room.units0
  refine PySem.GE.tup_eqB (es := es) (J := LoopB X pins σ H es) (F := LoopI X pins σ H) (fun i h1 h2 s' q => one_turn hD h sb p r r2 i h1 h2 s' q) (fun _ _ q => q.1) (fun s' q => ⟨(fun z => nomatch z), ?_⟩) ho ho2 ⟨⟨H, I, fun _ _ e => e⟩, fun j hj => absurd hj (Nat.not_lt_zero _)⟩
  rw [s1, s2]
  exact ⟨rfl, q⟩
theorem rcN_tup (hD : MonB D) (h : EqB X n D) : RcB X (n + 1) .NotEq not (TupB X.K D) := by
  intro A pins s σ H x y u v b sb I rx ry d
  obtain ⟨a, c, xs, ys, es, rfl, rfl, ha, hc, p, rfl⟩ := d
  cases (show u = Value.ref a from rx)
  cases (show v = Value.ref c from ry)
  obtain ⟨us, r, e, z⟩ := I.tuple ha
  obtain ⟨vs, r2, e2, z2⟩ := I.tuple hc
  have s1 : us.toArray.size = xs.length := by rw [List.size_toArray, ← r.length]
  have s2 : vs.toArray.size = ys.length := by rw [List.size_toArray, ← r2.length]
  obtain ⟨⟨cls, dd, data, sl⟩, ho, hc1, k1, hd1⟩ := id e
  obtain ⟨⟨cls2, dd2, data2, sl2⟩, ho2, hc2, k2, hd2⟩ := id e2
  dsimp only at hc1 hd1 hc2 hd2
  subst hc1 hd1 hc2 hd2
  refine wpAny_richCompare_same_room (op := .NotEq) ⟨_, ho, rfl⟩ ⟨_, ho2, rfl⟩ F.slot_tuple_ne (GQ.call_here F.slot_tuple_ne ⟨_, ho, rfl⟩ F.entry_tuple_ne (F.args_tuple_ne_2 _ _) ?_) sb.room.units0
  refine PySem.GE.tup_neB (es := es) (J := LoopB X pins σ H es) (F := LoopI X pins σ H) (fun i h1 h2 s' q => one_turn hD h sb p r r2 i h1 h2 s' q) (fun _ _ q => q.1) (fun s' q => ⟨(fun z => nomatch z), ?_⟩) ho ho2 ⟨⟨H, I, fun _ _ e => e⟩, fun j hj => absurd hj (Nat.not_lt_zero _)⟩
  rw [s1, s2]
  exact ⟨rfl, q⟩
/-- tuples in tuples -/
def TupS (K : PySem.W.Frag) (D : DB) : DB := fun x y b H => TupB K D x y b H ∧ (x = y → b = true)
theorem eqB_tup (hD : MonB D) (h : EqB X n D) : EqB X (n + 1) (TupS X.K D) := by
  have r : RcB X (n + 1) .Eq id (TupS X.K D) := fun A pins s σ H x y u v b sb I rx ry d => rcB_tup hD h A pins s σ H x y u v b sb I rx ry d.1
  refine r.eqB fun x y b H d => ?_
  obtain ⟨⟨a, c, xs, ys, es, rfl, rfl, _⟩, same⟩ := d
  exact ⟨a, c, rfl, rfl, fun e => same (by rw [e])⟩
theorem monB_tup {K : PySem.W.Frag} (hD : MonB D) : MonB (TupB K D) := by
  intro x y b H H' k d
  obtain ⟨a, c, xs, ys, es, e1, e2, ha, hc, p, e⟩ := d
  exact ⟨a, c, xs, ys, es, e1, e2, ha.ext k, hc.ext k, p.same hD k, e⟩
theorem monB_tupS {K : PySem.W.Frag} (hD : MonB D) : MonB (TupS K D) := fun x y b H H' k d => ⟨monB_tup hD x y b H H' k d.1, d.2⟩
/-- lists of one length, tracked -/
def LstB (D : DB) : DB := fun x y b H => ∃ a c xs ys es, x = .ref a ∧ y = .ref c ∧ H a = some (.lst xs) ∧ H c = some (.lst ys) ∧ xs.length = ys.length ∧ ItemsB D xs ys es H ∧ b = PySem.GE.allB xs.length xs.length es 0
theorem lst_turns (hD : MonB D) (h : EqB X n D) {A : Around} (sb : Sub X (n + 1) A) {pins : List (Addr × Obj)} {σ : L2.St} {H : Hp} {a c : Addr} {xs ys : List V} {es : Nat → Bool} (ha : H a = some (.lst xs)) (hc : H c = some (.lst ys)) (hl : xs.length = ys.length) (p : ItemsB D xs ys es H) :
    PySem.GE.LTurns X.prog X.w A X.xe a c xs.length es (LoopB X pins σ H es) (LoopI X pins σ H) := by
  intro i s' q
  obtain ⟨⟨H1, I1, k1⟩, _⟩ := id q
  obtain ⟨z, us, k, r, e⟩ := I1.hok a _ (k1 _ _ ha)
  obtain ⟨z2, vs, k2, r2, e2⟩ := I1.hok c _ (k1 _ _ hc)
  refine ⟨us.toArray, vs.toArray, k, k2, e, e2, ?_, ?_, fun h1 h2 => one_turn hD h sb p r r2 i h1 h2 s' q⟩
  · rw [List.size_toArray, ← r.length]
  · rw [List.size_toArray, ← r2.length, hl]
theorem lst_read {pins : List (Addr × Obj)} {σ : L2.St} {H : Hp} {a c : Addr} {xs ys : List V} (ha : H a = some (.lst xs)) (hc : H c = some (.lst ys)) (hl : xs.length = ys.length) : PySem.GE.LRead a c xs.length (LoopI X pins σ H) := by
  intro s' q
  obtain ⟨H1, I1, k1⟩ := q
  obtain ⟨z, us, k, r, e⟩ := I1.hok a _ (k1 _ _ ha)
  obtain ⟨z2, vs, k2, r2, e2⟩ := I1.hok c _ (k1 _ _ hc)
  refine ⟨us.toArray, vs.toArray, k, k2, e, e2, ?_, ?_⟩
  · rw [List.size_toArray, ← r.length]
  · rw [List.size_toArray, ← r2.length, hl]
theorem rcB_lst (hD : MonB D) (h : EqB X n D) : RcB X (n + 1) .Eq id (LstB D) := by
  intro A pins s σ H x y u v b sb I rx ry d
  obtain ⟨a, c, xs, ys, es, rfl, rfl, ha, hc, hl, p, rfl⟩ := d
  cases (show u = Value.ref a from rx)
  cases (show v = Value.ref c from ry)
  obtain ⟨z, us, k, r, e⟩ := I.hok a _ ha
  obtain ⟨z2, vs, k2, r2, e2⟩ := I.hok c _ hc
  refine wpAny_richCompare_same_room (op := .Eq) ⟨_, e, rfl⟩ ⟨_, e2, rfl⟩ F.slot_list_eq (GQ.call_here F.slot_list_eq ⟨_, e, rfl⟩ F.entry_list_eq (F.args_list_eq_2 _ _) ?_) sb.room.units0
  exact PySem.GE.lst_eqB (lst_turns hD h sb ha hc hl p) (lst_read ha hc hl) (fun _ _ q => q.1) (fun s' q => ⟨(fun z => nomatch z), rfl, q⟩) rfl ⟨⟨H, I, fun _ _ e => e⟩, fun j hj => absurd hj (Nat.not_lt_zero _)⟩
theorem rcN_lst (hD : MonB D) (h : EqB X n D) : RcB X (n + 1) .NotEq not (LstB D) := by
  intro A pins s σ H x y u v b sb I rx ry d
  obtain ⟨a, c, xs, ys, es, rfl, rfl, ha, hc, hl, p, rfl⟩ := d
  cases (show u = Value.ref a from rx)
  cases (show v = Value.ref c from ry)
  obtain ⟨z, us, k, r, e⟩ := I.hok a _ ha
  obtain ⟨z2, vs, k2, r2, e2⟩ := I.hok c _ hc
  refine wpAny_richCompare_same_room (op := .NotEq) ⟨_, e, rfl⟩ ⟨_, e2, rfl⟩ F.slot_list_ne (GQ.call_here F.slot_list_ne ⟨_, e, rfl⟩ F.entry_list_ne (F.args_list_ne_2 _ _) ?_) sb.room.units0
  exact PySem.GE.lst_neB (lst_turns hD h sb ha hc hl p) (lst_read ha hc hl) (fun _ _ q => q.1) (fun s' q => ⟨(fun z => nomatch z), rfl, q⟩) rfl ⟨⟨H, I, fun _ _ e => e⟩, fun j hj => absurd hj (Nat.not_lt_zero _)⟩
/-! ### as operators -/
def rCmpB (g : Bool → Bool) (D : DB) : R2 := fun x y H Q => ∃ b, D x y b H ∧ ∀ H', Same H H' → Q (.bl (g b)) H'
theorem op_rc {op : CmpOp} {g : Bool → Bool} (hc : ∀ u v : Value, compareOp op u v = richCompare op u v) (h : RcB X n op g D) (hr : Room n X.A) : OpR X (compareOp op) (rCmpB g D) := by
  intro pins s σ H x y v u Q I rx ry hq
  obtain ⟨b, d, q⟩ := hq
  rw [hc]
  refine wpAny_mono (h X.A pins s σ H x y v u b ⟨hr, rfl⟩ I rx ry d) (fun r s' z => ?_) fun _ _ z => z
  obtain ⟨rfl, H', I', k⟩ := z
  exact ⟨.bl (g b), H', I', rfl, q H' k⟩
theorem op_eqT (hD : MonB D) (h : EqB X n D) (hr : Room (n + 1) X.A) : OpR X (compareOp .Eq) (rCmpB id (TupB X.K D)) := op_rc (fun _ _ => rfl) (rcB_tup hD h) hr
theorem op_neT (hD : MonB D) (h : EqB X n D) (hr : Room (n + 1) X.A) : OpR X (compareOp .NotEq) (rCmpB not (TupB X.K D)) := op_rc (fun _ _ => rfl) (rcN_tup hD h) hr
theorem op_eqL (hD : MonB D) (h : EqB X n D) (hr : Room (n + 1) X.A) : OpR X (compareOp .Eq) (rCmpB id (LstB D)) := op_rc (fun _ _ => rfl) (rcB_lst hD h) hr
theorem op_neL (hD : MonB D) (h : EqB X n D) (hr : Room (n + 1) X.A) : OpR X (compareOp .NotEq) (rCmpB not (LstB D)) := op_rc (fun _ _ => rfl) (rcN_lst hD h) hr
end
end GL
set_option maxHeartbeats 1000000
/-! o.f as a target among others; the heap without one thing. -/
namespace GL
open PySem PySem.Spec PyProof.Rows L2
def gFld (K : PySem.W.Frag) (to : TE) (f : Str) : TG := fun y σ H Q => to σ H fun x H2 => ∃ a C dx fs, x = .ref a ∧ H2 a = some (.ins C dx fs) ∧ Cls K C ∧ NoAttr K C f ∧ fs.length < 1000 ∧ Q σ (upd H2 a (.ins C dx (putF f y fs)))
theorem pg_fld {X : Cx} {o : Expr} {to : TE} {f : Str} {pos : Pos} (ho : PE X o to) : PG X (.Attribute o f pos) (gFld X.K to f) := by
  constructor
  intro pins s σ H y u Q I ry h
  refine PySem.W.kas_attr (thn (ho.run pins s σ H _ I h) ?_)
  rintro ov s2 ⟨x, H2, I2, rx, a, C, dx, fs, rfl, ea, c, n, l, q⟩
  cases (show ov = Value.ref a from rx)
  exact setattr_ok I2 ea c n l ry fun s3 I3 => ⟨σ, _, I3, q⟩
/-- all but the thing at w -/
def off (H : Hp) (w : Addr) : Hp := fun a => if a = w then none else H a
theorem off_ne {H : Hp} {w a : Addr} (h : a ≠ w) : off H w a = H a := if_neg h
theorem off_at {H : Hp} {w : Addr} : off H w w = none := if_pos rfl
theorem off_some {H : Hp} {w a : Addr} {o : HO} (h : off H w a = some o) : a ≠ w ∧ H a = some o := by
  by_cases e : a = w
  · rw [e, off_at] at h
    cases h
  · rw [off_ne e] at h
    exact ⟨e, h⟩
theorem off_same {H H' : Hp} {w : Addr} (k : Same (off H w) H') : Same (off H w) (off H' w) := fun a o e => by
  rw [off_ne (off_some e).1]
  exact k a o e
theorem off_upd {H H' : Hp} {w : Addr} {o : HO} (k : Same (off H w) H') : Same (off H w) (upd H' w o) := fun a u e => by
  rw [upd_ne (off_some e).1]
  exact k a u e
theorem off_of {H : Hp} {w a : Addr} {o u : HO} (e : H w = some o) (h : H a = some u) (ne : u ≠ o) : off H w a = some u := by
  rw [off_ne]
  · exact h
  · rintro rfl
    rw [e] at h
    exact ne (Option.some.inj h).symm
theorem off_le {H : Hp} {w : Addr} : Same (off H w) H := fun a o e => (off_some e).2
/-- x(e, ..), x a local that holds a class of the program -/
def tMakeL (i : Nat) (C : Addr) (sp : Sp) (dvs : List V) (E : XK) (t : TA) : TE := fun σ H Q => σ[i]? = some (some (.ref C)) ∧ tMake C sp dvs E t σ H Q
theorem pe_makeL {X : Cx} {CX : CXT} {k i : Nat} {f C : Addr} {fd : FuncData} {ps : List Str} {sp : Sp} {dvs : List V} {ds : List Value} {E : XK} {x : Str} {p pos : Pos} {e : Expr} {es : List Expr} {t : TA} (M : Mk X.K C f) (F : FnOk X.prog X.w X.K X.mg X.base CX k f fd ps sp) (hr : Room (k + 1) X.A)
    (hN : X.N[i]? = some x) (hv : Vis X.env.scope x) (hb : Binds X.K fd ps ds) (hd : Vals dvs ds) (hx : Passes CX X E) (ha : PA X (e :: es) t) (h1 : (x == ("__debug__" : Str)) = false := by decide) (h2 : (x == ("__classdict__" : Str)) = false := by decide)
    (h3 : starEach (e :: es) X.env = (false, eval e X.env) :: starEach es X.env := by rfl) (h4 : (backTo pos (starEach es X.env)).any (·.1) = false := by rfl) : PE X (.Call (.Name x p) (e :: es) [] pos) (tMakeL i C sp dvs E t) := by
  constructor
  intro pins s σ H Q I h
  obtain ⟨at_, h⟩ := h
  apply wpAny_Call_Name_kw
  have name := (pe_var (X := X) (pos := p) hN hv h1 h2).run pins s σ H (fun v H1 => v = .ref C ∧ H1 = H) I ⟨.ref C, at_, rfl, rfl⟩
  refine thn name ?_
  rintro u s1 ⟨v, H1, I1, r1, rfl, rfl⟩
  cases (show u = Value.ref C from r1)
  refine PySem.W.callWith_K (h₀ := X.base) I.ok.mod.kin M.kp (thn (ha.run pos pins s1 σ _ _ I1 h) ?_) h3 h4
  rintro us s2 ⟨vs, H2, I2, r, q⟩
  exact ⟨I2.kIn, run_make M F hr hb hd hx I2 r q⟩
end GL
set_option maxHeartbeats 4000000
/-! x is True; heaps whose tables of code objects grow. -/
namespace GL
open PySem PySem.Spec PyProof.Rows L2
theorem op_isB {X : Cx} : OpR X (compareOp .Is) (fun x y H Q => ∃ a b, x = .bl a ∧ y = .bl b ∧ Q (.bl (a == b)) H) := by
  intro pins s z H x y v u Q I rx ry h
  obtain ⟨a, b, rfl, rfl, q⟩ := h
  cases rx
  cases ry
  cases a <;> cases b <;> exact wpAny_pure (fin_bl I q rfl)
/-- what is not a table -/
def noT (H : Hp) : Hp := fun b => match H b with
  | some (.tbl _) => none
  | o => o
section
variable {H H' : Hp} {b : Addr} {o : HO}
theorem noT_some (e : noT H b = some o) : H b = some o ∧ ∀ ps, o ≠ .tbl ps := by
  unfold noT at e
  split at e
  · cases e
  · rename_i n
    exact ⟨e, fun ps z => n ps (by rw [e, z])⟩
theorem noT_at (e : H b = some o) (n : ∀ ps, o ≠ .tbl ps) : noT H b = some o := by
  unfold noT
  split
  · rename_i z
    rw [e] at z
    cases z
    exact absurd rfl (n _)
  · exact e
theorem extN_same (k : LamX.ExtN H H') : Same (noT H) H' := fun b o e => k b o (noT_some e).1 (noT_some e).2
theorem same_extN (k : Same H H') : LamX.ExtN H H' := fun b o e _ => k b o e
theorem Tabs.same {T : List (Addr × Str)} (t : LamX.Tabs T H) (k : Same H H') : LamX.Tabs T H' := t.ext k
theorem codeO_lst {c : Addr} {q : Str} {xs : List V} : LamX.CodeO c q ≠ .lst xs := fun z => by
  unfold LamX.CodeO at z
  cases z
theorem Tabs.offP {T : List (Addr × Str)} {p : Addr} {xs : List V} (t : LamX.Tabs T H) (e : H p = some (.lst xs)) : LamX.Tabs T (off H p) := fun x hx => by
  obtain ⟨ps, h1, h2, h3⟩ := t x hx
  refine ⟨ps, ?_, h2, fun pos cv hc => ?_⟩
  · rw [off_ne (fun z => by rw [z, e] at h1; cases h1)]
    exact h1
  · obtain ⟨c, e1, e2⟩ := h3 pos cv hc
    refine ⟨c, e1, ?_⟩
    rw [off_ne (fun z => by rw [z, e] at e2; exact codeO_lst (Option.some.inj e2).symm)]
    exact e2
end
end GL
set_option maxHeartbeats 4000000
/-! A law one of whose defs makes lambdas: the table of its code object, in the hook and at the end. -/
namespace GL
open PySem PySem.Spec PyProof.Rows L2
/-- a table in which nothing is yet -/
def isTab (o : Obj) : Bool := match o with
  | ⟨.none, none, .fields vs, sl⟩ => vs.isEmpty && sl.isEmpty
  | _ => false
theorem isTab_eq {o : Obj} (h : isTab o = true) : o = { cls := .none, data := .fields #[] } := by
  unfold isTab at h
  split at h
  · rename_i vs sl
    obtain ⟨h1, h2⟩ := He.ba h
    rw [Array.isEmpty_iff.mp h1, Array.isEmpty_iff.mp h2]
  · cases h
def codeAt (K : PySem.W.Frag) (f : Addr) : Addr := match K.lookup f with
  | some ⟨_, _, .func fd, _⟩ => (match fd.code with | .ref c => c | _ => 0)
  | _ => 0
def tabAt (K : PySem.W.Frag) (c : Addr) : Addr := match K.lookup c with
  | some ⟨_, _, .fields vs, _⟩ => (match (vs[11]? : Option Value) with | some (.ref p) => p | _ => 0)
  | _ => 0
def codeB (K : PySem.W.Frag) (f : Addr) : Bool := (match K.lookup f with
  | some ⟨_, _, .func fd, _⟩ => (match fd.code with | .ref _ => true | _ => false)
  | _ => false) && ((match K.lookup (codeAt K f) with
  | some ⟨.type "code", _, .fields vs, _⟩ => (match (vs[11]? : Option Value) with | some (.ref _) => true | _ => false) && ((match vs.getD 18 .none with | .str _ _ => true | _ => false) && ((match vs.getD 7 .none with | .int _ _ => true | _ => false) &&
      ((match vs.getD 9 .none with | .bool _ => true | _ => false) && (match vs.getD 10 .none with | .int _ _ => true | _ => false))))
  | _ => false) && (!(codeAt K f == tabAt K (codeAt K f)) && (K.lookup (tabAt K (codeAt K f))).isNone))
theorem codeB_ok {K : PySem.W.Frag} {h : Heap} {f : Addr} (KX : K.In h) (b : codeB K f = true) : PySem.W.CodeHd h (codeAt K f) (tabAt K (codeAt K f)) ∧ K.lookup (tabAt K (codeAt K f)) = none ∧
    ∀ oc od fd osl, K.lookup f = some ⟨oc, od, .func fd, osl⟩ → fd.code = .ref (codeAt K f) := by
  obtain ⟨b1, b2⟩ := He.ba b
  obtain ⟨b2, b3⟩ := He.ba b2
  obtain ⟨b3, b4⟩ := He.ba b3
  refine ⟨?_, by simpa using b4, fun oc od fd osl e => ?_⟩
  · have ne : codeAt K f ≠ tabAt K (codeAt K f) := by simpa using b3
    generalize hc : codeAt K f = c at *
    unfold tabAt at ne ⊢
    split at b2
    · rename_i dd vs sl e
      rw [e] at ne ⊢
      dsimp only at ne ⊢
      obtain ⟨c1, c2⟩ := He.ba b2
      obtain ⟨c2, c3⟩ := He.ba c2
      obtain ⟨c3, c4⟩ := He.ba c3
      obtain ⟨c4, c5⟩ := He.ba c4
      split at c1
      · rename_i p ep
        try rw [ep] at ne
        dsimp only at ne
        split at c2
        · rename_i x1 x2 e1
          split at c3
          · rename_i y1 y2 e2
            split at c4
            · rename_i z1 e3
              split at c5
              · rename_i w1 w2 e4
                exact ⟨_, vs, x1, x2, y1, y2, z1, w1, w2, KX _ _ e, rfl, rfl, ep, by rw [Array.getD_eq_getD_getElem?, ep]; rfl, e1, e2, e3, e4, ne⟩
              · cases c5
            · cases c4
          · cases c3
        · cases c2
      · cases c1
    · cases b2
  · unfold codeAt
    rw [e] at b1 ⊢
    dsimp only at b1 ⊢
    split at b1
    · rename_i c ec
      rw [ec]
    · cases b1
/-- as kOfT, without the tables -/
def kOfC (n : Nat) (g : Addr → Option Obj) : PySem.W.Frag := He.frG g ((cStatics :: sysModules :: lvls g n [mainGlobals]).filter fun a => match g a with | some o => !isTab o | none => true)
def tabF (n : Nat) (fr : PySem.W.Frag → Addr) (g : Addr → Option Obj) : PySem.W.Frag := He.frG g [tabAt (kOfC n g) (codeAt (kOfC n g) (fr (kOfC n g)))]
def tabB (K T : PySem.W.Frag) (f : Addr) : Bool := codeB K f && (match T.lookup (tabAt K (codeAt K f)) with | some o => isTab o | none => false)
def obsC (n : Nat) (fa : List He.Fa) (fn : List He.DefD) (fx : List DefX) (ex : PySem.W.Frag → Bool) (fr : PySem.W.Frag → Addr) (g : Addr → Option Obj) : AlZ :=
  (He.obsD fa fn (kOfC n g), (fx.map (fnX (kOfC n g)), fx.all (okX (kOfC n g)) && (ex (kOfC n g) && tabB (kOfC n g) (tabF n fr g) (fr (kOfC n g)))))
def hookC (n : Nat) (fa : List He.Fa) (fn : List He.DefD) (fx : List DefX) (ex : PySem.W.Frag → Bool) (fr : PySem.W.Frag → Addr) : PySem.W.Hook where
  α := AlZ
  obs := fun s => obsC n fa fn fx ex fr s.heap.get?
  val := fun _ => (He.valD fn, (fx.map (fun x : DefX => x.d.val), true))
  says := fun _ h => ∃ K T : PySem.W.Frag, K.In h ∧ T.In h ∧ He.SaysD fa fn K ∧ SaysX fx K ∧ ex K = true ∧ tabB K T (fr K) = true
  of := fun _ s e => by
    have e1 := congrArg (fun z : AlZ => z.1) e
    have e2 := congrArg (fun z : AlZ => z.2.1) e
    have e3 := congrArg (fun z : AlZ => z.2.2) e
    obtain ⟨f1, f2⟩ := He.ba (show (fx.all (okX (kOfC n s.heap.get?)) && (ex (kOfC n s.heap.get?) && tabB (kOfC n s.heap.get?) (tabF n fr s.heap.get?) (fr (kOfC n s.heap.get?)))) = true from e3)
    obtain ⟨f2, f3⟩ := He.ba f2
    exact ⟨kOfC n s.heap.get?, tabF n fr s.heap.get?, He.frG_in, He.frG_in, e1, ⟨e2, f1⟩, f2, f3⟩
  keeps := fun _ _ _ ⟨K, T, hK, hT, c⟩ k => ⟨K, T, PySem.W.Frag.In.keeps hK k, PySem.W.Frag.In.keeps hT k, c⟩
theorem obsC_eq {n : Nat} {fa : List He.Fa} {fn : List He.DefD} {fx : List DefX} {ex : PySem.W.Frag → Bool} {fr : PySem.W.Frag → Addr} {g : Addr → Option Obj} {s : Shared} (h : ∀ a, g a = s.heap.get? a) : obsC n fa fn fx ex fr g = (hookC n fa fn fx ex fr).obs s := by
  have e : g = s.heap.get? := funext h
  rw [e]
  rfl
section
open HandSHeadRun
theorem run_partsC {r : PySem.W.OpenRow} {q : Program} {n : Nat} {fa : List He.Fa} {fn : List He.DefD} {fx : List DefX} {ex : PySem.W.Frag → Bool} {fr : PySem.W.Frag → Addr} {M : Nat} {loose : List PySem.Str} {w : World}
    (h1 : (wholeF (fun p => stepQ (denQ tabQ) p w) fenceQ M r.prog).map (fun x => (looksF r.prog x.1.heap x.2.abs, seenQ q loose (importedModules r.prog.main.body) (fun s => PySem.W.xlAt q [] s && PySem.W.recOk r.toRowW.records s) x.2.abs)) = some (true, PySem.W.openGood q loose))
    (h2 : (wholeF (fun p => stepQ (denQ tabQ) p w) fenceQ M r.prog).map (fun x => He.obsD fa fn (kOfC n (getT x.2))) = some (He.valD fn))
    (h3 : (wholeF (fun p => stepQ (denQ tabQ) p w) fenceQ M r.prog).map (fun x => (fx.map (fnX (kOfC n (getT x.2))), fx.all (okX (kOfC n (getT x.2))) && (ex (kOfC n (getT x.2)) && tabB (kOfC n (getT x.2)) (tabF n fr (getT x.2)) (fr (kOfC n (getT x.2)))))) = some (fx.map (fun x : DefX => x.d.val), true)) :
    RunEqI r q (hookC n fa fn fx ex fr) (fun s => obsC n fa fn fx ex fr (getT s)) M loose w := by
  unfold RunEqI
  cases e : wholeF (fun p => stepQ (denQ tabQ) p w) fenceQ M r.prog with
  | none =>
    rw [e] at h1
    cases h1
  | some x =>
    rw [e] at h1 h2 h3
    have a1 := Option.some.inj h1
    have a2 := Option.some.inj h2
    have a3 := Option.some.inj h3
    obtain ⟨b1, b2⟩ := Prod.mk.inj a1
    refine congrArg some (Prod.ext b1 (Prod.ext b2 ?_))
    exact Prod.ext a2 a3
end
end GL
set_option maxHeartbeats 4000000
/-! As GB, several defs that make lambdas: a table for each. -/
namespace GL
open PySem PySem.Spec PyProof.Rows L2
def tabF2 (n : Nat) (fr : PySem.W.Frag → List Addr) (g : Addr → Option Obj) : PySem.W.Frag := He.frG g ((fr (kOfC n g)).map fun f => tabAt (kOfC n g) (codeAt (kOfC n g) f))
def tabB2 (K T : PySem.W.Frag) (fs : List Addr) : Bool := fs.all fun f => tabB K T f
def obsC2 (n : Nat) (fa : List He.Fa) (fn : List He.DefD) (fx : List DefX) (ex : PySem.W.Frag → Bool) (fr : PySem.W.Frag → List Addr) (g : Addr → Option Obj) : AlZ :=
  (He.obsD fa fn (kOfC n g), (fx.map (fnX (kOfC n g)), fx.all (okX (kOfC n g)) && (ex (kOfC n g) && tabB2 (kOfC n g) (tabF2 n fr g) (fr (kOfC n g)))))
def hookC2 (n : Nat) (fa : List He.Fa) (fn : List He.DefD) (fx : List DefX) (ex : PySem.W.Frag → Bool) (fr : PySem.W.Frag → List Addr) : PySem.W.Hook where
  α := AlZ
  obs := fun s => obsC2 n fa fn fx ex fr s.heap.get?
  val := fun _ => (He.valD fn, (fx.map (fun x : DefX => x.d.val), true))
  says := fun _ h => ∃ K T : PySem.W.Frag, K.In h ∧ T.In h ∧ He.SaysD fa fn K ∧ SaysX fx K ∧ ex K = true ∧ tabB2 K T (fr K) = true
  of := fun _ s e => by
    have e1 := congrArg (fun z : AlZ => z.1) e
    have e2 := congrArg (fun z : AlZ => z.2.1) e
    have e3 := congrArg (fun z : AlZ => z.2.2) e
    obtain ⟨f1, f2⟩ := He.ba (show (fx.all (okX (kOfC n s.heap.get?)) && (ex (kOfC n s.heap.get?) && tabB2 (kOfC n s.heap.get?) (tabF2 n fr s.heap.get?) (fr (kOfC n s.heap.get?)))) = true from e3)
    obtain ⟨f2, f3⟩ := He.ba f2
    exact ⟨kOfC n s.heap.get?, tabF2 n fr s.heap.get?, He.frG_in, He.frG_in, e1, ⟨e2, f1⟩, f2, f3⟩
  keeps := fun _ _ _ ⟨K, T, hK, hT, c⟩ k => ⟨K, T, PySem.W.Frag.In.keeps hK k, PySem.W.Frag.In.keeps hT k, c⟩
theorem obsC2_eq {n : Nat} {fa : List He.Fa} {fn : List He.DefD} {fx : List DefX} {ex : PySem.W.Frag → Bool} {fr : PySem.W.Frag → List Addr} {g : Addr → Option Obj} {s : Shared} (h : ∀ a, g a = s.heap.get? a) : obsC2 n fa fn fx ex fr g = (hookC2 n fa fn fx ex fr).obs s := by
  have e : g = s.heap.get? := funext h
  rw [e]
  rfl
section
open HandSHeadRun
theorem run_partsC2 {r : PySem.W.OpenRow} {q : Program} {n : Nat} {fa : List He.Fa} {fn : List He.DefD} {fx : List DefX} {ex : PySem.W.Frag → Bool} {fr : PySem.W.Frag → List Addr} {M : Nat} {loose : List PySem.Str} {w : World}
    (h1 : (wholeF (fun p => stepQ (denQ tabQ) p w) fenceQ M r.prog).map (fun x => (looksF r.prog x.1.heap x.2.abs, seenQ q loose (importedModules r.prog.main.body) (fun s => PySem.W.xlAt q [] s && PySem.W.recOk r.toRowW.records s) x.2.abs)) = some (true, PySem.W.openGood q loose))
    (h2 : (wholeF (fun p => stepQ (denQ tabQ) p w) fenceQ M r.prog).map (fun x => He.obsD fa fn (kOfC n (getT x.2))) = some (He.valD fn))
    (h3 : (wholeF (fun p => stepQ (denQ tabQ) p w) fenceQ M r.prog).map (fun x => (fx.map (fnX (kOfC n (getT x.2))), fx.all (okX (kOfC n (getT x.2))) && (ex (kOfC n (getT x.2)) && tabB2 (kOfC n (getT x.2)) (tabF2 n fr (getT x.2)) (fr (kOfC n (getT x.2)))))) = some (fx.map (fun x : DefX => x.d.val), true)) :
    RunEqI r q (hookC2 n fa fn fx ex fr) (fun s => obsC2 n fa fn fx ex fr (getT s)) M loose w := by
  unfold RunEqI
  cases e : wholeF (fun p => stepQ (denQ tabQ) p w) fenceQ M r.prog with
  | none =>
    rw [e] at h1
    cases h1
  | some x =>
    rw [e] at h1 h2 h3
    have a1 := Option.some.inj h1
    have a2 := Option.some.inj h2
    have a3 := Option.some.inj h3
    obtain ⟨b1, b2⟩ := Prod.mk.inj a1
    refine congrArg some (Prod.ext b1 (Prod.ext b2 ?_))
    exact Prod.ext a2 a3
end
end GL
set_option maxHeartbeats 4000000
/-! The end of a law whose promise asks the units' guards and a table of lambdas. -/
namespace GL
open PySem PySem.Spec PyProof.Rows L2
theorem law_callT2 {P : Program} {w : World} {K : PySem.W.Frag} {mg mb : Str → Option Value} {k : Nat} {fa a : Addr} {L : List (Addr × Addr)} {fd : FuncData} {x : Str} {sp : Sp} {s₁ : Shared} {vs : List Value} {ns : List Int}
    (KX : K.In s₁.heap) (hns : s₁.heap.Ns mainGlobals mg) (hb : s₁.heap.Ns builtinsNs mb) (hbb : ∀ x : Str, x ≠ "__name__" → mb x = bootBuiltins x) (hlim : s₁.heap.NoLimit) (hg : s₁.gens = #[])
    (tab : ∀ tb ∈ L.map Prod.snd, s₁.heap.get? tb = some { cls := .none, data := .fields #[] }) (noK : ∀ tb ∈ L.map Prod.snd, K.lookup tb = none) (code : ∀ x ∈ L, PySem.W.CodeHd s₁.heap x.1 x.2)
    (hbm : ∃ (bm : Addr) (ob : Obj), mg "__builtins__" = some (.ref bm) ∧ bm ≠ builtinsNs ∧ s₁.heap.get? bm = some ob ∧ ob.cls = .type "module" ∧ ob.dict = some builtinsNs ∧ ob.data = .plain)
    (ha : s₁.heap.get? a = some { cls := .type "list", data := .seq vs.toArray }) (hi : IntsAre vs ns) (hl : ns.length ≤ sizeLine) (hr : Room k callerA)
    (F : ∀ base : Heap, K.In base → base.Ns mainGlobals mg → (∀ x ∈ L, LamX.TabB base mg x.1 x.2) → FnG P w K mg base CX0 k fa fd [x] sp) (hbind : ∀ (s : Shared) (u : Value), BindsTo s fd ⟨[u], []⟩ [(x, u)])
    (hsp : ∀ H : Hp, (∀ tb ∈ L.map Prod.snd, H tb = some (.tbl #[])) → SqL K H a (ns.map V.int) → sp [.ref a] H (fun v _ => v = .bl true) E0) :
    codeAny (model P w) callerA (.call (.ref fa) ⟨[.ref a], []⟩) (fun r s' => r = .ok (.ret (.bool true)) ∧ OldK s₁.heap s'.heap ∧ s'.os = s₁.os ∧ AllBare s'.gens) s₁ := by
  have rv := vals_ints hi
  have atb : a ∉ L.map Prod.snd := fun z => by
    rw [tab _ z] at ha
    cases ha
  have main : ∀ H : Hp, (∀ tb ∈ L.map Prod.snd, H tb = some (.tbl #[])) → (∀ b u, b ∉ L.map Prod.snd → H b = some u → b = a ∧ K.lookup a = none ∧ ∃ o xs, u = .frz o (.lst xs)) → SqL K H a (ns.map V.int) → HOk P w H s₁.heap →
      codeAny (model P w) callerA (.call (.ref fa) ⟨[.ref a], []⟩) (fun r s' => r = .ok (.ret (.bool true)) ∧ OldK s₁.heap s'.heap ∧ s'.os = s₁.os ∧ AllBare s'.gens) s₁ := by
    intro H ht ours sq hok
    have stays : ∀ {b : Addr} {o : Obj}, s₁.heap.get? b = some o → H b = none → (hidT s₁.heap H).get? b = some o := fun e n => hidT_get e n
    -- what is neither the script nor the table isn't tracked
    have free : ∀ {b : Addr} {o : Obj}, s₁.heap.get? b = some o → (∀ us n, o.data ≠ .seq us n) → o.data ≠ .fields #[] → H b = none := by
      intro b o e n1 n2
      cases q : H b with
      | none => rfl
      | some u =>
        by_cases hb : b ∈ L.map Prod.snd
        · rw [tab _ hb] at e
          cases e
          exact absurd rfl n2
        · cases (ours b u hb q).1
          rw [ha] at e
          cases e
          exact absurd rfl (n1 _ _)
    have spaces : ∀ {b : Addr} {m : Str → Option Value}, s₁.heap.Ns b m → (hidT s₁.heap H).Ns b m := fun {b m} ⟨o, es, ep, e, d, r⟩ => ⟨o, es, ep, stays e (free e (fun us n z => by rw [d] at z; cases z) fun z => by rw [d] at z; cases z), d, r⟩
    have kin : K.In (hidT s₁.heap H) := by
      intro b o e
      refine stays (KX b o e) ?_
      cases q : H b with
      | none => rfl
      | some u =>
        by_cases hb : b ∈ L.map Prod.snd
        · rw [noK _ hb] at e
          cases e
        · obtain ⟨rfl, z, _⟩ := ours b u hb q
          rw [z] at e
          cases e
    have md : Mod K mg (hidT s₁.heap H) := ⟨kin, spaces hns, ⟨mb, spaces hb, hbb⟩, let ⟨mc, h1, h2⟩ := hlim; ⟨mc, spaces h1, h2⟩⟩
    have TB : ∀ x ∈ L, LamX.TabB (hidT s₁.heap H) mg x.1 x.2 := by
      intro x hx
      have hx2 : x.2 ∈ L.map Prod.snd := List.mem_map.mpr ⟨x, hx, rfl⟩
      refine ⟨?_, ?_, fun z => ?_⟩
      · obtain ⟨o, us, file, tf, flags, tg, inF, text, tt, e1, r1, r2, r3, r⟩ := code x hx
        refine ⟨o, us, file, tf, flags, tg, inF, text, tt, stays e1 (free e1 (fun us n z => by rw [r2] at z; cases z) fun z => ?_), r1, r2, r3, r⟩
        rw [r2] at z
        cases z
        simp at r3
      · obtain ⟨bm, ob, b1, b2, b3, b4, b5, b6⟩ := hbm
        have n1 : bm ≠ mainGlobals := fun q => by
          obtain ⟨o, es, ep, e, d, _⟩ := hns
          rw [q, e] at b3
          cases b3
          rw [d] at b6
          cases b6
        have n2 : bm ≠ x.2 := fun q => by
          rw [q, tab _ hx2] at b3
          cases b3
          cases b6
        exact ⟨bm, ob, b1, b2, n1, n2, stays b3 (free b3 (fun us n z => by rw [b6] at z; cases z) fun z => by rw [b6] at z; cases z), b4, b5, b6⟩
      · obtain ⟨o, es, ep, e, d, _⟩ := hns
        rw [z, tab _ hx2] at e
        cases e
        cases d
    have nofr : ∀ b ∈ frs ([] : List Env), H b = none := fun b z => nomatch z
    have e0 : Env0 P w K mg (hidT s₁.heap H) callerA [] s₁ H := ⟨rfl, md, fun b o e => of_hidT e, Nat.le_of_eq (hidT_size _ _), trivial, nofr, hok, .of_eq hg⟩
    refine codeAny_mono ((F _ kin (spaces hns) TB).go callerA [] s₁ H ⟨[.ref a], []⟩ [.ref a] [.ref a] _ _ rfl hr e0 (hbind s₁ (.ref a)) (.cons rfl .nil) (hsp H ht sq)) ?_
    intro r s' h
    match r, h with
    | .error e, h => exact False.elim h
    | .ok .next, h => exact False.elim h
    | .ok .brk, h => exact False.elim h
    | .ok .cont, h => exact False.elim h
    | .ok (.ret u), h =>
      obtain ⟨v, H', os, bare, un, hok', r', rfl⟩ := h
      cases (show u = Value.bool true from r')
      have other : ∀ b o, b ∉ L.map Prod.snd → s₁.heap.get? b = some o → s'.heap.get? b = some o := by
        intro b o hb e
        cases q : H b with
        | none => exact un.keep b o e q (fun z => nomatch z) (fun z => nomatch z)
        | some u =>
          obtain ⟨_, _, ob, xs, rfl⟩ := ours b u hb q
          have e1 := (hok b _ q).1
          have e2 := (hok' b _ (un.frzs b ob _ q)).1
          rw [e] at e1
          cases e1
          exact e2
      have grow : ∀ tb ∈ L.map Prod.snd, ∃ more : Array Value, s'.heap.get? tb = some { cls := .none, data := .fields more } := fun tb htb => by
        obtain ⟨more, grown⟩ := un.tbls tb #[] (ht tb htb)
        have grown : s'.heap.get? tb = some { cls := .none, data := .fields (#[] ++ more) } := hok' tb _ grown
        rw [Array.empty_append] at grown
        exact ⟨more, grown⟩
      refine ⟨rfl, ⟨fun b o e => ?_, fun b o e => ?_⟩, os, bare⟩
      · by_cases hb : b ∈ L.map Prod.snd
        · rw [tab _ hb] at e
          cases e
          obtain ⟨more, grown⟩ := grow b hb
          obtain ⟨x, hx, ex⟩ := List.mem_map.mp hb
          have tx := tab _ hb
          rw [← ex] at tx
          have it := ((code x hx).tab tx).isCodeTable
          rw [ex] at it
          exact .inr (.inl ⟨it, rfl, #[], more, rfl, by rw [Array.empty_append]; exact grown⟩)
        · exact .inl (other b o hb e)
      · by_cases hb : b ∈ L.map Prod.snd
        · obtain ⟨more, grown⟩ := grow b hb
          exact ⟨_, grown⟩
        · exact ⟨o, other b o hb e⟩
  cases hk : K.lookup a with
  | some o =>
    have e := KX a o hk
    rw [ha] at e
    cases e
    refine main (fun b => if b ∈ L.map Prod.snd then some (.tbl #[]) else none) (fun _ hb => if_pos hb) (fun b u hb z => ?_) (.inr ⟨_, vs.toArray, _, hk, rfl, rfl, rfl, ?_, by simpa using rv⟩) fun b u z => ?_
    · rw [if_neg hb] at z
      cases z
    · rw [List.size_toArray, hi.length]
      exact hl
    · by_cases hb : b ∈ L.map Prod.snd
      · have z' := (if_pos hb).symm.trans z
        cases z'
        exact tab _ hb
      · have z' := (if_neg hb).symm.trans z
        cases z'
  | none =>
    refine main (fun b => if b ∈ L.map Prod.snd then some (.tbl #[]) else if b = a then some (HO.frz { cls := .type "list", data := .seq vs.toArray } (.lst (ns.map V.int))) else none) (fun _ hb => if_pos hb) (fun b u hb z => ?_) (.inl (.inr ⟨{ cls := .type "list", data := .seq vs.toArray }, ?_⟩)) fun b u z => ?_
    · have z1 := (if_neg hb).symm.trans z
      by_cases h : b = a
      · have z2 := (if_pos h).symm.trans z1
        exact ⟨h, hk, _, _, (Option.some.inj z2).symm⟩
      · have z2 := (if_neg h).symm.trans z1
        cases z2
    · exact (if_neg atb).trans (if_pos rfl)
    · by_cases hb : b ∈ L.map Prod.snd
      · have z' := (if_pos hb).symm.trans z
        cases z'
        exact tab _ hb
      · have z1 := (if_neg hb).symm.trans z
        by_cases h : b = a
        · have z2 := (if_pos h).symm.trans z1
          cases z2
          rw [h]
          exact ⟨ha, by rw [List.length_map]; exact hl, vs, _, rv, ha⟩
        · have z2 := (if_neg h).symm.trans z1
          cases z2
theorem walk_T2 {l : PySem.W.OpenLaw} {n k : Nat} {q : Program} {loose : List Str} {XP : (Str → Option Value) → Heap → Prop} {YP : World → Heap → Prop} {d : DefRec} {x : Str}
    (hn : l.most = some n) (hn2 : n ≤ sizeLine) (hdf : d.params.defaults = []) (hr : Room k callerA)
    (F : ∀ (w : World) (mg : Str → Option Value) (fa : Addr) (h : Heap), YP w h → h.Ns mainGlobals mg → mg d.name = some (.ref fa) →
      ∃ (K : PySem.W.Frag) (L : List (Addr × Addr)) (fd : FuncData) (sp : Sp), K.In h ∧ (∀ tb ∈ L.map Prod.snd, h.get? tb = some { cls := .none, data := .fields #[] }) ∧ (∀ tb ∈ L.map Prod.snd, K.lookup tb = none) ∧ (∀ x ∈ L, PySem.W.CodeHd h x.1 x.2) ∧ (∀ (s : Shared) (u : Value), BindsTo s fd ⟨[u], []⟩ [(x, u)]) ∧
        (∀ (H : Hp) (a : Addr) (ns : List Int), ns.length ≤ n → (∀ tb ∈ L.map Prod.snd, H tb = some (.tbl #[])) → SqL K H a (ns.map V.int) → sp [.ref a] H (fun v _ => v = .bl true) E0) ∧
        ∀ base : Heap, K.In base → base.Ns mainGlobals mg → (∀ x ∈ L, LamX.TabB base mg x.1 x.2) → FnG l.prog w K mg base CX0 k fa fd [x] sp) :
    PySem.W.WalkO q loose XP YP l.row.toRowW d [] (fun f vs => PySem.call f vs) := by
  apply Att.attach_callB hn hdf
  intro w s₀ s₁ mg mb fa o pm cd doc a vs ns G Y ho hd hcd hmg hobj hints hlen hbits hg
  obtain ⟨K, L, fd, sp, KX, t1, t2, t3, hb, hsp, hF⟩ := F w mg fa _ Y G.T.g hmg
  exact law_callT2 KX G.T.g G.T.b G.T.builtins G.T.nolimit hg t1 t2 t3 G.T.bmain hobj hints (Nat.le_trans hlen hn2) hr hF hb fun H ht sq => hsp H a ns hlen ht sq
end GL
set_option maxHeartbeats 4000000
/-! As GB2; K holds what keyword-only defaults name too. -/
namespace GL
open PySem PySem.Spec PyProof.Rows L2
def kwdT (g : Addr → Option Obj) (as : List Addr) : List Addr := as.flatMap fun a => match g a with
  | some o => (match o.data with
    | .func fd => He.refV fd.kwdefaults
    | _ => [])
  | none => []
def lvlsK (g : Addr → Option Obj) (n : Nat) : List Addr := (fun as => as ++ (fun ks => ks ++ nextT g ks) (kwdT g as)) (lvls g n [mainGlobals])
def kOfK (n : Nat) (g : Addr → Option Obj) : PySem.W.Frag := He.frG g ((cStatics :: sysModules :: lvlsK g n).filter fun a => match g a with | some o => !isTab o | none => true)
def tabF3 (n : Nat) (fr : PySem.W.Frag → List Addr) (g : Addr → Option Obj) : PySem.W.Frag := He.frG g ((fr (kOfK n g)).map fun f => tabAt (kOfK n g) (codeAt (kOfK n g) f))
def obsC3 (n : Nat) (fa : List He.Fa) (fn : List He.DefD) (fx : List DefX) (ex : PySem.W.Frag → Bool) (fr : PySem.W.Frag → List Addr) (g : Addr → Option Obj) : AlZ :=
  (He.obsD fa fn (kOfK n g), (fx.map (fnX (kOfK n g)), fx.all (okX (kOfK n g)) && (ex (kOfK n g) && tabB2 (kOfK n g) (tabF3 n fr g) (fr (kOfK n g)))))
def hookC3 (n : Nat) (fa : List He.Fa) (fn : List He.DefD) (fx : List DefX) (ex : PySem.W.Frag → Bool) (fr : PySem.W.Frag → List Addr) : PySem.W.Hook where
  α := AlZ
  obs := fun s => obsC3 n fa fn fx ex fr s.heap.get?
  val := fun _ => (He.valD fn, (fx.map (fun x : DefX => x.d.val), true))
  says := fun _ h => ∃ K T : PySem.W.Frag, K.In h ∧ T.In h ∧ He.SaysD fa fn K ∧ SaysX fx K ∧ ex K = true ∧ tabB2 K T (fr K) = true
  of := fun _ s e => by
    have e1 := congrArg (fun z : AlZ => z.1) e
    have e2 := congrArg (fun z : AlZ => z.2.1) e
    have e3 := congrArg (fun z : AlZ => z.2.2) e
    obtain ⟨f1, f2⟩ := He.ba (show (fx.all (okX (kOfK n s.heap.get?)) && (ex (kOfK n s.heap.get?) && tabB2 (kOfK n s.heap.get?) (tabF3 n fr s.heap.get?) (fr (kOfK n s.heap.get?)))) = true from e3)
    obtain ⟨f2, f3⟩ := He.ba f2
    exact ⟨kOfK n s.heap.get?, tabF3 n fr s.heap.get?, He.frG_in, He.frG_in, e1, ⟨e2, f1⟩, f2, f3⟩
  keeps := fun _ _ _ ⟨K, T, hK, hT, c⟩ k => ⟨K, T, PySem.W.Frag.In.keeps hK k, PySem.W.Frag.In.keeps hT k, c⟩
theorem obsC3_eq {n : Nat} {fa : List He.Fa} {fn : List He.DefD} {fx : List DefX} {ex : PySem.W.Frag → Bool} {fr : PySem.W.Frag → List Addr} {g : Addr → Option Obj} {s : Shared} (h : ∀ a, g a = s.heap.get? a) : obsC3 n fa fn fx ex fr g = (hookC3 n fa fn fx ex fr).obs s := by
  have e : g = s.heap.get? := funext h
  rw [e]
  rfl
/-- the object that a keyword-only default is -/
def kwAt (C m x : Str) (K : PySem.W.Frag) : Addr := match K.lookup (He.ma K (He.ga K C) m) with
  | some ⟨_, _, .func fd, _⟩ => (match fd.kwdefaults with
    | .ref D => (match PySem.W.nsIn K D x with
      | some (some (.ref b)) => b
      | _ => 0)
    | _ => 0)
  | _ => 0
/-- an empty tuple of the written part -/
def tup0B (K : PySem.W.Frag) (a : Addr) : Bool := match K.lookup a with
  | some ⟨.type c, _, .seq its _, _⟩ => decide (c = "tuple") && its.toList.isEmpty
  | _ => false
theorem tup0B_ok {K : PySem.W.Frag} {a : Addr} (h : tup0B K a = true) : (∀ H : Hp, TyX K H (.ref a) (.type "tuple")) ∧ ∀ H : Hp, SqT K H a [] := by
  unfold tup0B at h
  split at h
  · rename_i c dd its n sl e
    obtain ⟨h1, h2⟩ := He.ba h
    have hc : (Value.type c) = .type "tuple" := congrArg Value.type (of_decide_eq_true h1)
    have h3 : its.toList = [] := List.isEmpty_iff.mp h2
    refine ⟨fun H => .kTuple e hc, fun H => .inr ⟨_, its, n, e, hc, rfl, ?_, ?_⟩⟩
    · have : its.size = 0 := by rw [← Array.length_toList, h3]; rfl
      rw [this]
      exact Nat.zero_le _
    · rw [h3]
      exact .nil
  · cases h
section
open HandSHeadRun
theorem run_partsC3 {r : PySem.W.OpenRow} {q : Program} {n : Nat} {fa : List He.Fa} {fn : List He.DefD} {fx : List DefX} {ex : PySem.W.Frag → Bool} {fr : PySem.W.Frag → List Addr} {M : Nat} {loose : List PySem.Str} {w : World}
    (h1 : (wholeF (fun p => stepQ (denQ tabQ) p w) fenceQ M r.prog).map (fun x => (looksF r.prog x.1.heap x.2.abs, seenQ q loose (importedModules r.prog.main.body) (fun s => PySem.W.xlAt q [] s && PySem.W.recOk r.toRowW.records s) x.2.abs)) = some (true, PySem.W.openGood q loose))
    (h2 : (wholeF (fun p => stepQ (denQ tabQ) p w) fenceQ M r.prog).map (fun x => He.obsD fa fn (kOfK n (getT x.2))) = some (He.valD fn))
    (h3 : (wholeF (fun p => stepQ (denQ tabQ) p w) fenceQ M r.prog).map (fun x => (fx.map (fnX (kOfK n (getT x.2))), fx.all (okX (kOfK n (getT x.2))) && (ex (kOfK n (getT x.2)) && tabB2 (kOfK n (getT x.2)) (tabF3 n fr (getT x.2)) (fr (kOfK n (getT x.2)))))) = some (fx.map (fun x : DefX => x.d.val), true)) :
    RunEqI r q (hookC3 n fa fn fx ex fr) (fun s => obsC3 n fa fn fx ex fr (getT s)) M loose w := by
  unfold RunEqI
  cases e : wholeF (fun p => stepQ (denQ tabQ) p w) fenceQ M r.prog with
  | none =>
    rw [e] at h1
    cases h1
  | some x =>
    rw [e] at h1 h2 h3
    have a1 := Option.some.inj h1
    have a2 := Option.some.inj h2
    have a3 := Option.some.inj h3
    obtain ⟨b1, b2⟩ := Prod.mk.inj a1
    refine congrArg some (Prod.ext b1 (Prod.ext b2 ?_))
    exact Prod.ext a2 a3
end
end GL
set_option maxHeartbeats 0
namespace K18
open PySem PySem.Spec PyProof.Rows L2 GL
def plain (x : Str) (i : Nat) : He.DefD := ⟨(x, none), x, x, defArgs (tp i), defBody (tp i), defScope (tp i), [], []⟩
def fns : List He.DefD := [⟨("InvalidName", some "__init__"), "__init__", "InvalidName.__init__", defArgs (inClass (tp 5) 0), defBody (inClass (tp 5) 0), defScope (inClass (tp 5) 0), [], []⟩,
  ⟨("InvalidRule", some "__init__"), "__init__", "InvalidRule.__init__", defArgs (inClass (tp 7) 0), defBody (inClass (tp 7) 0), defScope (inClass (tp 7) 0), [], []⟩,
  ⟨("TooMany", some "__init__"), "__init__", "TooMany.__init__", defArgs (inClass (tp 8) 0), defBody (inClass (tp 8) 0), defScope (inClass (tp 8) 0), [], []⟩,
  plain "is_integer" 14,
  plain "is_list" 15,
  plain "is_name" 16,
  plain "_is_word" 17,
  plain "has_names" 18,
  plain "is_one_of" 19,
  plain "is_number" 21,
  ⟨("Ratio", some "__init__"), "__init__", "Ratio.__init__", defArgs (inClass (tp 22) 0), defBody (inClass (tp 22) 0), defScope (inClass (tp 22) 0), [.int 1], []⟩,
  ⟨("Ratio", some "is_below"), "is_below", "Ratio.is_below", defArgs (inClass (tp 22) 7), defBody (inClass (tp 22) 7), defScope (inClass (tp 22) 7), [], []⟩,
  ⟨("Ratio", some "over"), "over", "Ratio.over", defArgs (inClass (tp 22) 8), defBody (inClass (tp 22) 8), defScope (inClass (tp 22) 8), [], []⟩,
  ⟨("Ratio", some "__add__"), "__add__", "Ratio.__add__", defArgs (inClass (tp 22) 9), defBody (inClass (tp 22) 9), defScope (inClass (tp 22) 9), [], []⟩,
  ⟨("Ratio", some "__eq__"), "__eq__", "Ratio.__eq__", defArgs (inClass (tp 22) 13), defBody (inClass (tp 22) 13), defScope (inClass (tp 22) 13), [], []⟩,
  ⟨("Move", some "__init__"), "__init__", "Move.__init__", defArgs (inClass (tp 25) 0), defBody (inClass (tp 25) 0), defScope (inClass (tp 25) 0), [], []⟩,
  plain "_check_divisor" 26,
  plain "_check_part" 27,
  ⟨("Rule", some "__init__"), "__init__", "Rule.__init__", defArgs (inClass (tp 32) 0), defBody (inClass (tp 32) 0), defScope (inClass (tp 32) 0), [], [("when", .adr (kwAt "Rule" "__init__" "when")), ("moves", .non)]⟩,
  ⟨("Rule", some "changed"), "changed", "Rule.changed", defArgs (inClass (tp 32) 6), defBody (inClass (tp 32) 6), defScope (inClass (tp 32) 6), [], []⟩,
  ⟨("Rule", some "__eq__"), "__eq__", "Rule.__eq__", defArgs (inClass (tp 32) 7), defBody (inClass (tp 32) 7), defScope (inClass (tp 32) 7), [], []⟩,
  plain "_check_when" 33,
  plain "_is_condition" 34,
  plain "_check_moves" 35,
  plain "_law_pot" 37,
  plain "_law_draw" 38,
  plain "_law_pick" 39,
  plain "_law_told" 40,
  plain "_law_odd_name" 41,
  plain "_law_odd_claims" 42,
  plain "_law_odd_shifts" 43,
  plain "_law_made" 44,
  plain "_law_changes" 45,
  plain "_law_refused" 46,
  plain "_law_unknown_right" 47,
  plain "_law_ninth_right" 48,
  plain "_law_taken_right" 49,
  plain "law" 50]
def fxs : List DefX := [⟨fun K => wrapAt K (He.ga K "Ratio") "of" "classmethod", ⟨("Ratio", some "of"), "of", "Ratio.of", defArgs (inClass (tp 22) 1), defBody (inClass (tp 22) 1), defScope (inClass (tp 22) 1), [], []⟩⟩]
def fas : List He.Fa := [.glo "FadeError",
  .glo "InvalidName",
  .glo "InvalidRule",
  .glo "TooMany",
  .glo "is_integer",
  .glo "is_list",
  .glo "is_name",
  .glo "_is_word",
  .glo "has_names",
  .glo "is_one_of",
  .glo "is_number",
  .glo "Ratio",
  .glo "Move",
  .glo "_check_divisor",
  .glo "_check_part",
  .glo "SIDES",
  .glo "PARTS",
  .glo "Rule",
  .glo "_check_when",
  .glo "_is_condition",
  .glo "_check_moves",
  .glo "_law_pot",
  .glo "_law_draw",
  .glo "_law_pick",
  .glo "_law_told",
  .glo "_law_odd_name",
  .glo "_law_odd_claims",
  .glo "_law_odd_shifts",
  .glo "_law_made",
  .glo "_law_changes",
  .glo "_law_refused",
  .glo "_law_unknown_right",
  .glo "_law_ninth_right",
  .glo "_law_taken_right",
  .glo "law",
  .int "LONGEST_WORD" 8,
  .int "MOST_CONDITIONS" 8,
  .str "LETTERS" "abcdefghijklmnopqrstuvwxyz",
  .free "isinstance",
  .free "int",
  .free "bool",
  .free "len",
  .free "abs",
  .free "max",
  .free "min",
  .free "divmod",
  .free "str",
  .free "list",
  .free "all",
  .free "range",
  .free "tuple",
  .free "repr",
  .free "any",
  .free "dict",
  .free "sorted",
  .free "enumerate",
  .free "ValueError",
  .cls "Ratio",
  .noat "Ratio" "_top",
  .noat "Ratio" "_bottom",
  .mkr "Ratio",
  .cls "Move",
  .noat "Move" "_divisor",
  .noat "Move" "_plus",
  .noat "Move" "_low",
  .noat "Move" "_high",
  .mkr "Move",
  .cls "Rule",
  .noat "Rule" "_goal",
  .noat "Rule" "_answer",
  .noat "Rule" "_when",
  .noat "Rule" "_moves",
  .mkr "Rule",
  .meth "Ratio" "is_below",
  .meth "Ratio" "over",
  .meth "Ratio" "__add__",
  .meth "Ratio" "__eq__",
  .meth "Rule" "changed",
  .meth "Rule" "__eq__"]
def mroB (K : PySem.W.Frag) (C : Addr) : Bool := match PySem.W.clsIn K C with
  | some cd => (match cd.mro with | .ref a :: _ => a == C | _ => false)
  | none => false
def chks (K : PySem.W.Frag) : List Bool := [decide (PySem.W.specialIn K (.builtin "object.__class__") "__get__" = some (some (.builtin "getset_descriptor.__get__"))),
  decide (PySem.W.takesIn K (.builtin "object.__class__") = some true),
  He.eqO (PySem.W.findIn K (.ref (He.ga K "Ratio")) "__class__") (some (some (.builtin "object.__class__"))),
  decide (PySem.W.mroIn K (He.ga K "Ratio") (.type "object") = some true),
  He.eqO (PySem.W.findIn K (.ref (He.ga K "Ratio")) "__ne__") (some (some (.builtin "object.__ne__"))),
  He.eqO (PySem.W.findIn K (.ref (He.ga K "Move")) "__class__") (some (some (.builtin "object.__class__"))),
  decide (PySem.W.mroIn K (He.ga K "Move") (.type "object") = some true),
  He.eqO (PySem.W.findIn K (.ref (He.ga K "Rule")) "__class__") (some (some (.builtin "object.__class__"))),
  decide (PySem.W.mroIn K (He.ga K "Rule") (.type "object") = some true),
  He.eqO (PySem.W.findIn K (.ref (He.ga K "Rule")) "__ne__") (some (some (.builtin "object.__ne__"))),
  decide (PySem.W.kitOne K (.ref (He.ga K "Ratio")) (.type "int") = some false),
  decide (PySem.W.kitOne K (.type "int") (.ref (He.ga K "Ratio")) = some false),
  He.eqO (PySem.W.findIn K (.ref (He.ga K "Ratio")) "__radd__") (some none),
  mroB K (He.ga K "Ratio"),
  decide (PySem.W.subIn K (.type "int") (.ref (He.ga K "Ratio")) = some false),
  cmetB K (He.ga K "Ratio") (.type "type") "of",
  PySem.W.readsIn K (He.ga K "Ratio") (.type "type"),
  He.eqO (PySem.W.specialIn K (.ref (He.ga K "Ratio")) "__getattribute__") (some (some (.builtin "type.__getattribute__"))),
  He.eqO (PySem.W.nsIn K mainGlobals "gcd") (some (some (.builtin "math.gcd"))),
  xcB K (He.ga K "InvalidName") .ve,
  He.eqO (PySem.W.findIn K (.ref (He.ga K "InvalidName")) "value") (some none),
  He.eqO (PySem.W.findIn K (.ref (He.ga K "InvalidName")) "__init__") (some (some (.ref (He.ma K (He.ga K "InvalidName") "__init__")))),
  decide (PySem.W.typeIn K (.ref (He.ma K (He.ga K "InvalidName") "__init__")) = some (.type "function")),
  decide (PySem.W.kitOne K (.ref (He.ga K "InvalidName")) (.ref (He.ga K "FadeError")) = some true),
  xcB K (He.ga K "InvalidRule") .ve,
  He.eqO (PySem.W.findIn K (.ref (He.ga K "InvalidRule")) "part") (some none),
  He.eqO (PySem.W.findIn K (.ref (He.ga K "InvalidRule")) "position") (some none),
  He.eqO (PySem.W.findIn K (.ref (He.ga K "InvalidRule")) "__init__") (some (some (.ref (He.ma K (He.ga K "InvalidRule") "__init__")))),
  decide (PySem.W.typeIn K (.ref (He.ma K (He.ga K "InvalidRule") "__init__")) = some (.type "function")),
  decide (PySem.W.kitOne K (.ref (He.ga K "InvalidRule")) (.ref (He.ga K "FadeError")) = some true),
  xcB K (He.ga K "TooMany") .ve,
  He.eqO (PySem.W.findIn K (.ref (He.ga K "TooMany")) "kind") (some none),
  He.eqO (PySem.W.findIn K (.ref (He.ga K "TooMany")) "limit") (some none),
  He.eqO (PySem.W.findIn K (.ref (He.ga K "TooMany")) "__init__") (some (some (.ref (He.ma K (He.ga K "TooMany") "__init__")))),
  decide (PySem.W.typeIn K (.ref (He.ma K (He.ga K "TooMany") "__init__")) = some (.type "function")),
  decide (PySem.W.kitOne K (.ref (He.ga K "TooMany")) (.ref (He.ga K "FadeError")) = some true),
  decide (PySem.W.kitOne K (.ref (He.ga K "InvalidName")) (.type "ValueError") = some true),
  decide (PySem.W.exmOne K (.ref (He.ga K "InvalidName")) (.ref (He.ga K "InvalidName")) = some true),
  decide (PySem.W.exmOne K (.ref (He.ga K "InvalidRule")) (.ref (He.ga K "InvalidName")) = some false),
  decide (PySem.W.exmOne K (.ref (He.ga K "InvalidRule")) (.ref (He.ga K "InvalidRule")) = some true),
  decide (PySem.W.exmOne K (.ref (He.ga K "TooMany")) (.ref (He.ga K "InvalidName")) = some false),
  decide (PySem.W.exmOne K (.ref (He.ga K "TooMany")) (.ref (He.ga K "InvalidRule")) = some false),
  decide (PySem.W.exmOne K (.ref (He.ga K "TooMany")) (.ref (He.ga K "TooMany")) = some true),
  decide (PySem.W.kitOne K (.type "NoneType") (.ref (He.ga K "Ratio")) = some false),
  decide (PySem.W.kitOne K (.type "bool") (.ref (He.ga K "Ratio")) = some false),
  decide (PySem.W.kitOne K (.type "str") (.ref (He.ga K "Ratio")) = some false),
  decide (PySem.W.kitOne K (.type "NoneType") (.ref (He.ga K "Move")) = some false),
  decide (PySem.W.kitOne K (.type "int") (.ref (He.ga K "Move")) = some false),
  decide (PySem.W.kitOne K (.type "tuple") (.ref (He.ga K "Move")) = some false),
  decide (PySem.W.kitOne K (.type "str") (.ref (He.ga K "Move")) = some false),
  decide (PySem.W.kitOne K (.type "dict") (.ref (He.ga K "Move")) = some false),
  decide (PySem.W.kitOne K (.ref (He.ga K "Ratio")) (.ref (He.ga K "Move")) = some false),
  decide (PySem.W.kitOne K (.ref (He.ga K "Move")) (.ref (He.ga K "Move")) = some true),
  He.tupB K "SIDES" [.str "from", .str "above", .str "to", .str "below"],
  He.tupB K "PARTS" [.str "goal", .str "answer", .str "when", .str "moves"],
  tup0B K (kwAt "Rule" "__init__" "when" K),
  !(tabAt K (codeAt K (He.ga K "_law_made")) == tabAt K (codeAt K (He.ga K "_law_changes"))),
  !(tabAt K (codeAt K (He.ga K "_law_made")) == tabAt K (codeAt K (He.ga K "_law_unknown_right"))),
  !(tabAt K (codeAt K (He.ga K "_law_made")) == tabAt K (codeAt K (He.ga K "_law_ninth_right"))),
  !(tabAt K (codeAt K (He.ga K "_law_made")) == tabAt K (codeAt K (He.ga K "_law_taken_right"))),
  !(tabAt K (codeAt K (He.ga K "_law_changes")) == tabAt K (codeAt K (He.ga K "_law_unknown_right"))),
  !(tabAt K (codeAt K (He.ga K "_law_changes")) == tabAt K (codeAt K (He.ga K "_law_ninth_right"))),
  !(tabAt K (codeAt K (He.ga K "_law_changes")) == tabAt K (codeAt K (He.ga K "_law_taken_right"))),
  !(tabAt K (codeAt K (He.ga K "_law_unknown_right")) == tabAt K (codeAt K (He.ga K "_law_ninth_right"))),
  !(tabAt K (codeAt K (He.ga K "_law_unknown_right")) == tabAt K (codeAt K (He.ga K "_law_taken_right"))),
  !(tabAt K (codeAt K (He.ga K "_law_ninth_right")) == tabAt K (codeAt K (He.ga K "_law_taken_right")))]
def exB (K : PySem.W.Frag) : Bool := sysB K && (chks K).all id
def lamF (K : PySem.W.Frag) : List Addr := [He.ga K "_law_made", He.ga K "_law_changes", He.ga K "_law_unknown_right", He.ga K "_law_ninth_right", He.ga K "_law_taken_right"]
end K18
set_option maxHeartbeats 0
namespace K18
open PySem PySem.Spec PyProof.Rows L2 GL
abbrev R : PySem.W.OpenRow := PySem.W.OpenLaw.row PySem.Challenge.rw_fademodes_k21_rules_refused
abbrev hk : PySem.W.Hook := hookC3 5 fas fns fxs exB lamF
def ob (s : PySem.W.SharedT) : AlZ := obsC3 5 fas fns fxs exB lamF (HandSHeadRun.getT s)
theorem ob_eq (s : PySem.W.SharedT) : ob s = hk.obs s.abs := obsC3_eq (HandSHeadRun.getT_eq s)
def loose : List PySem.Str := (["_wall", "__name__", "FadeError", "InvalidNumber", "InvalidName", "InvalidMove", "InvalidRule", "TooMany", "StateError", "DividedByZero", "LETTERS", "LONGEST_WORD", "is_integer", "is_list", "is_name", "_is_word", "has_names", "is_one_of", "is_number", "Ratio"] : List PySem.Str) ++ (["_ratios_of", "Move", "_check_divisor", "_check_part", "SIDES", "PARTS", "MOST_CONDITIONS", "Rule", "_check_when", "_is_condition", "_check_moves", "_law_pot", "_law_draw", "_law_pick", "_law_told", "_law_odd_name", "_law_odd_claims", "_law_odd_shifts", "_law_made", "_law_changes"] : List PySem.Str) ++ (["_law_refused", "_law_unknown_right", "_law_ninth_right", "_law_taken_right"] : List PySem.Str)
theorem run1 (w : World) : (HandSHeadRun.wholeF (fun p => HandSHeadRun.stepQ (HandSHeadRun.denQ HandSHeadRun.tabQ) p w) HandSHeadRun.fenceQ 20000 R.prog).map (fun x => (HandSHeadRun.looksF R.prog x.1.heap x.2.abs, HandSHeadRun.seenQ (PySem.W.view R.prog [0, 50]) loose (importedModules R.prog.main.body) (fun s => PySem.W.xlAt (PySem.W.view R.prog [0, 50]) [] s && PySem.W.recOk R.toRowW.records s) x.2.abs)) = some (true, PySem.W.openGood (PySem.W.view R.prog [0, 50]) loose) := by
  kernel_rfl
theorem run2 (w : World) : (HandSHeadRun.wholeF (fun p => HandSHeadRun.stepQ (HandSHeadRun.denQ HandSHeadRun.tabQ) p w) HandSHeadRun.fenceQ 20000 R.prog).map (fun x => He.obsD fas fns (kOfK 5 (HandSHeadRun.getT x.2))) = some (He.valD fns) := by
  kernel_rfl
theorem run3 (w : World) : (HandSHeadRun.wholeF (fun p => HandSHeadRun.stepQ (HandSHeadRun.denQ HandSHeadRun.tabQ) p w) HandSHeadRun.fenceQ 20000 R.prog).map (fun x => (fxs.map (fnX (kOfK 5 (HandSHeadRun.getT x.2))), fxs.all (okX (kOfK 5 (HandSHeadRun.getT x.2))) && (exB (kOfK 5 (HandSHeadRun.getT x.2)) && tabB2 (kOfK 5 (HandSHeadRun.getT x.2)) (tabF3 5 lamF (HandSHeadRun.getT x.2)) (lamF (kOfK 5 (HandSHeadRun.getT x.2)))))) = some (fxs.map (fun x : DefX => x.d.val), true) := by
  kernel_rfl
theorem run (w : World) : HandSHeadRun.RunEqI R (PySem.W.view R.prog [0, 50]) hk ob 20000 loose w := run_partsC3 (run1 w) (run2 w) (run3 w)
end K18
set_option maxHeartbeats 4000000
namespace K18
open PySem PySem.Spec PyProof.Rows L2 GL
/-! ### numbers in lowest terms -/
theorem norm {t b : Int} (hb : b ≠ 0) : t.fdiv (if 0 < b then (t.natAbs.gcd b.natAbs : Int) else -(t.natAbs.gcd b.natAbs : Int)) = (Rat.divInt t b).num ∧
    b.fdiv (if 0 < b then (t.natAbs.gcd b.natAbs : Int) else -(t.natAbs.gcd b.natAbs : Int)) = ((Rat.divInt t b).den : Int) := by
  have hg : b.gcd t = t.natAbs.gcd b.natAbs := Nat.gcd_comm _ _
  have g0 : 0 < t.natAbs.gcd b.natAbs := Nat.gcd_pos_of_pos_right _ (Int.natAbs_pos.mpr hb)
  rw [Rat.num_divInt, Rat.den_divInt, if_neg hb, hg]
  generalize hG : t.natAbs.gcd b.natAbs = G at *
  have dT : (G : Int) ∣ t := by
    rw [← hG]
    exact Int.ofNat_dvd_left.mpr (Nat.gcd_dvd_left _ _)
  have dB : (G : Int) ∣ b := by
    rw [← hG]
    exact Int.ofNat_dvd_left.mpr (Nat.gcd_dvd_right _ _)
  obtain ⟨x, rfl⟩ := dT
  obtain ⟨y, rfl⟩ := dB
  have gi : (0 : Int) < (G : Int) := by omega
  have gn : (G : Int) ≠ 0 := by omega
  have y0 : y ≠ 0 := by
    rintro rfl
    exact hb (Int.mul_zero _)
  have e3 : ((((G : Int) * y).natAbs / G : Nat) : Int) = (y.natAbs : Int) := by
    rw [Int.natAbs_mul, Int.natAbs_natCast, Nat.mul_div_cancel_left _ g0]
  rw [e3]
  by_cases hp : 0 < (G : Int) * y
  · have yp : 0 < y := by
      rcases Int.lt_or_gt_of_ne y0 with q | q
      · exact absurd (Int.mul_neg_of_pos_of_neg gi q) (by omega)
      · exact q
    rw [if_pos hp, Int.fdiv_eq_ediv_of_nonneg _ (by omega), Int.fdiv_eq_ediv_of_nonneg _ (by omega), Int.mul_ediv_cancel_left _ gn, Int.mul_ediv_cancel_left _ gn, Int.sign_eq_one_of_pos hp, Int.one_mul, Int.mul_ediv_cancel_left _ gn]
    exact ⟨rfl, by omega⟩
  · have hn : (G : Int) * y < 0 := by
      have : (G : Int) * y ≠ 0 := hb
      omega
    have yn : y < 0 := by
      rcases Int.lt_or_gt_of_ne y0 with q | q
      · exact q
      · exact absurd (Int.mul_pos gi q) hp
    have e1 : ((G : Int) * x).fdiv (-(G : Int)) = -x := by
      rw [← Int.neg_fdiv_neg, Int.neg_neg, Int.fdiv_eq_ediv_of_nonneg _ (by omega), ← Int.mul_neg, Int.mul_ediv_cancel_left _ gn]
    have e2 : ((G : Int) * y).fdiv (-(G : Int)) = -y := by
      rw [← Int.neg_fdiv_neg, Int.neg_neg, Int.fdiv_eq_ediv_of_nonneg _ (by omega), ← Int.mul_neg, Int.mul_ediv_cancel_left _ gn]
    rw [if_neg hp, e1, e2, Int.sign_eq_neg_one_of_neg hn, Int.neg_one_mul, ← Int.mul_neg, Int.mul_ediv_cancel_left _ gn]
    exact ⟨rfl, by omega⟩
/-! ### the class Ratio -/
abbrev aR (K : PySem.W.Frag) : Addr := He.ga K "Ratio"
structure RF (K : PySem.W.Frag) (mg : Str → Option Value) : Prop where
  cl : Cls K (aR K)
  nT : NoAttr K (aR K) "_top"
  nB : NoAttr K (aR K) "_bottom"
  kc : PySem.W.findIn K (.ref (aR K)) "__class__" = some (some (.builtin "object.__class__"))
  sp : PySem.W.specialIn K (.builtin "object.__class__") "__get__" = some (some (.builtin "getset_descriptor.__get__"))
  tk : PySem.W.takesIn K (.builtin "object.__class__") = some true
  ob : PySem.W.mroIn K (aR K) (.type "object") = some true
  ki : PySem.W.kitOne K (.ref (aR K)) (.type "int") = some false
  gR : mg "Ratio" = some (.ref (aR K))
  isi : mg "isinstance" = none
  int : mg "int" = none
  bool : mg "bool" = none
/-- a Ratio at an address -/
def RatAt (K : PySem.W.Frag) (H : Hp) (p : Addr) (q : Rat) : Prop := ∃ dx, H p = some (.ins (aR K) dx [("_top", .int q.num), ("_bottom", .int q.den)])
theorem RatAt.same {K : PySem.W.Frag} {H H' : Hp} {p : Addr} {q : Rat} (h : RatAt K H p q) (k : Same H H') : RatAt K H' p q := by
  obtain ⟨dx, e⟩ := h
  exact ⟨dx, k _ _ e⟩
theorem RatAt.ty {K : PySem.W.Frag} {mg : Str → Option Value} {H : Hp} {p : Addr} {q : Rat} (T : RF K mg) (h : RatAt K H p q) : TyX K H (.ref p) (.ref (aR K)) := by
  obtain ⟨dx, e⟩ := h
  exact .base (.ins e T.cl T.kc T.sp T.tk T.ob)
/-- a NUMBER: a whole number, or a Ratio -/
def NumAt (K : PySem.W.Frag) (H : Hp) (x : V) (q : Rat) : Prop := (∃ i : Int, x = .int i ∧ q = (i : Rat)) ∨ ∃ p, x = .ref p ∧ RatAt K H p q
theorem NumAt.same {K : PySem.W.Frag} {H H' : Hp} {x : V} {q : Rat} (h : NumAt K H x q) (k : Same H H') : NumAt K H' x q := by
  rcases h with h | ⟨p, e, h⟩
  · exact .inl h
  · exact .inr ⟨p, e, h.same k⟩
section
variable {P : Program} {w : World} {K : PySem.W.Frag} {mg : Str → Option Value} {base : Heap}
/-! ### is_integer -/
def spIsInt (K : PySem.W.Frag) : Sp := fun vs H Q _ => ∃ (x : V) (t : Value) (b1 b2 : Bool), vs = [x] ∧ TyX K H x t ∧ PySem.W.kitOne K t (.type "int") = some b1 ∧ (b1 = true → PySem.W.kitOne K t (.type "bool") = some b2) ∧ Q (.bl (b1 && !b2)) H
theorem scIsInt : FnScope ["value"] ["value"] (defScope sIsInt) := ⟨rfl, rfl, rfl, by decide +kernel, rfl, by decide +kernel, by decide +kernel⟩
theorem ok_isInt {f : Addr} {fd : FuncData} (F : Fun K "is_integer" "is_integer" sIsInt f fd) (T : RF K mg) : FnOk P w K mg base CX0 1 f fd ["value"] (spIsInt K) := by
  refine F.ok scIsInt (fun vs H Q E h => ?_) (fun cdv A outer s H vs Q E hr h => ?_)
  · obtain ⟨x, t, b1, b2, rfl, _⟩ := h
    rfl
  · obtain ⟨x, t, b1, b2, rfl, ty, k1, k2, q⟩ := h
    refine ⟨_, pss_one (ps_ret (pe_and (pe_callB call_isi (by rfl) T.isi (by decide +kernel) (pa_cons (pv 0) (pa_cons (pe_bltn (v := .ty "int") (by rfl) T.int (by decide +kernel) rfl) pa_nil)))
      (pe_one (pe_not (pe_callB call_isi (by rfl) T.isi (by decide +kernel) (pa_cons (pv 0) (pa_cons (pe_bltn (v := .ty "bool") (by rfl) T.bool (by decide +kernel) rfl) pa_nil))))))), ?_⟩
    refine ⟨_, rfl, x, .ty "int", t, _, b1, rfl, .ty _, ty, k1, b1, rfl, ?_⟩
    cases b1 with
    | true => exact iteT ⟨_, rfl, x, .ty "bool", t, _, b2, rfl, .ty _, ty, k2 rfl, b2, rfl, q⟩
    | false => exact q
/-! ### is_number -/
def spIsNum (K : PySem.W.Frag) : Sp := fun vs H Q _ => ∃ (x : V) (q : Rat), vs = [x] ∧ NumAt K H x q ∧ Q (.bl true) H
theorem scIsNum : FnScope ["value"] ["value"] (defScope sIsNum) := ⟨rfl, rfl, rfl, by decide +kernel, rfl, by decide +kernel, by decide +kernel⟩
theorem ok_isNum {f fI : Addr} {fd fdI : FuncData} (F : Fun K "is_number" "is_number" sIsNum f fd) (T : RF K mg) (FI : Fun K "is_integer" "is_integer" sIsInt fI fdI) (gI : mg "is_integer" = some (.ref fI)) (bI : Binds K fdI ["value"] []) (kr : PySem.W.kitOne K (.type "int") (.ref (aR K)) = some false) :
    FnOk P w K mg base CX0 2 f fd ["value"] (spIsNum K) := by
  have GI : FnOk P w K mg base CX0 1 fI fdI ["value"] (spIsInt K) := ok_isInt FI T
  refine F.ok scIsNum (fun vs H Q E h => ?_) (fun cdv A outer s H vs Q E hr h => ?_)
  · obtain ⟨x, q, rfl, _⟩ := h
    rfl
  · obtain ⟨x, q, rfl, hx, k⟩ := h
    refine ⟨_, pss_one (ps_ret (pe_or (pe_callB call_isi (by rfl) T.isi (by decide +kernel) (pa_cons (pv 0) (pa_cons (pe_glob (v := .ref (aR K)) rfl T.gR rfl) pa_nil)))
      (pe_one (pe_call GI hr rfl gI FI.kp bI .nil pass0 (pa_cons (pv 0) pa_nil))))), ?_⟩
    rcases hx with ⟨i, rfl, rfl⟩ | ⟨p, rfl, hp⟩
    · refine ⟨_, rfl, .int i, .ref (aR K), .type "int", _, false, rfl, .own _, .base (.int i), kr, false, rfl, ?_⟩
      refine iteF ⟨_, rfl, .int i, .type "int", true, false, rfl, .base (.int i), kit_ty (by decide +kernel), fun _ => kit_ty (by decide +kernel), k⟩
    · exact ⟨_, rfl, .ref p, .ref (aR K), .ref (aR K), _, true, rfl, .own _, hp.ty T, (by unfold PySem.W.kitOne; rw [if_pos (beq_self_eq_true _)]), true, rfl, iteT k⟩
end
end K18
set_option maxHeartbeats 4000000
namespace K18
open PySem PySem.Spec PyProof.Rows L2 GL
theorem ps_never {X : Cx} {st : Stmt} : PS X st (fun _ _ _ => False) := ⟨fun pins s σ H D I h => h.elim⟩
theorem op_fdivZ {X : Cx} : OpR X (binaryOp .FloorDiv) (rI (fun _ j => j ≠ 0 ∧ j.natAbs.log2 < 9000) fun i j => .int (i.fdiv j)) :=
  opI fun i j t u s Q E hc q => floordiv_int hc.1 q (Or.inl (PyProof.noPylong_of_log2 hc.2))
theorem log2_lt {n k : Nat} (h : n < 2 ^ k) (hk : 0 < k) : n.log2 < k := by
  by_cases z : n = 0
  · subst z
    simpa using hk
  · exact (Nat.log2_lt z).mpr h
section
variable {P : Program} {w : World} {K : PySem.W.Frag} {mg : Str → Option Value} {base : Heap}
/-! ### Ratio.__init__ -/
def spRInit (K : PySem.W.Frag) : Sp := fun vs H Q _ => ∃ (a dx : Addr) (t b : Int), vs = [.ref a, .int t, .int b] ∧ b ≠ 0 ∧ b.natAbs < 2 ^ 9000 ∧ H a = some (.ins (aR K) dx []) ∧
  ∀ H', H' a = some (.ins (aR K) dx [("_top", .int (Rat.divInt t b).num), ("_bottom", .int (Rat.divInt t b).den)]) → (∀ c o, c ≠ a → H c = some o → H' c = some o) → Q .non H'
theorem scRInit : FnScope ["self", "top", "bottom", "common"] ["self", "top", "bottom"] (defScope (sRatio 0)) := ⟨rfl, rfl, rfl, by decide +kernel, rfl, by decide +kernel, by decide +kernel⟩
theorem ok_rInit {f fI : Addr} {fd fdI : FuncData} {dv : List V} (F : FunD K "__init__" "Ratio.__init__" (defArgs (sRatio 0)) (defBody (sRatio 0)) (defScope (sRatio 0)) dv [] f fd) (T : RF K mg) (FI : Fun K "is_integer" "is_integer" sIsInt fI fdI) (gI : mg "is_integer" = some (.ref fI)) (bI : Binds K fdI ["value"] []) (gG : mg "gcd" = some (.builtin "math.gcd")) :
    FnOk P w K mg base CX0 2 f fd ["self", "top", "bottom"] (spRInit K) := by
  have GI : FnOk P w K mg base CX0 1 fI fdI ["value"] (spIsInt K) := ok_isInt FI T
  refine F.ok scRInit (fun vs H Q E h => ?_) (fun cdv A outer s H vs Q E hr h => ?_)
  · obtain ⟨a, dx, t, b, rfl, _⟩ := h
    rfl
  · obtain ⟨a, dx, t, b, rfl, hb, hz, ea, k⟩ := h
    refine ⟨_, pss_cons (ps_if (pt_not (pt_val (pe_call GI hr rfl gI FI.kp bI .nil pass0 (pa_cons (pv 1) pa_nil)))) (pss_one ps_never) pss_nil)
      (pss_cons (ps_if (PW.pt (pw_or (pt_not (pt_val (pe_call GI hr rfl gI FI.kp bI .nil pass0 (pa_cons (pv 2) pa_nil)))) (pw_or1 (pt_cmpR op_eq (pv 2) pe_int (nomark _))))) (pss_one ps_never) pss_nil)
      (pss_cons (ps_set (i := 3) scRInit.nd rfl (Or.inl rfl) (pe_ifExp (pt_cmpR op_gt (pv 2) pe_int (nomark _)) (pe_callBfun cr_gcd rfl gG (pa_cons (pv 1) (pa_cons (pv 2) pa_nil))) (pe_un un_neg (pe_callBfun cr_gcd rfl gG (pa_cons (pv 1) (pa_cons (pv 2) pa_nil))))))
      (pss_cons (ps_fld (pv 0) (pe_op op_fdivZ (pv 1) (pv 3)) rfl) (pss_one (ps_fld (pv 0) (pe_op op_fdivZ (pv 2) (pv 3)) rfl))))), ?_⟩
    refine ⟨_, rfl, .int t, .type "int", true, false, rfl, .base (.int t), kit_ty (by decide +kernel), fun _ => kit_ty (by decide +kernel), true, rfl, ?_⟩
    refine iteF ?_
    refine ⟨_, rfl, .int b, .type "int", true, false, rfl, .base (.int b), kit_ty (by decide +kernel), fun _ => kit_ty (by decide +kernel), true, rfl, ?_⟩
    refine iteF ⟨_, rfl, rfl, _, rfl, ?_⟩
    have e0 : decide (V.int b = V.int 0) = false := decide_eq_false fun z => hb (by injection z)
    dsimp only
    rw [e0]
    refine iteF ?_
    have go : ∀ c : Int, c ≠ 0 → c.natAbs.log2 < 9000 → t.fdiv c = (Rat.divInt t b).num → b.fdiv c = ((Rat.divInt t b).den : Int) →
        tSeq (sFld K (tVar 0) (tOp (rI (fun _ j => j ≠ 0 ∧ j.natAbs.log2 < 9000) fun i j => .int (i.fdiv j)) (tVar 1) (tVar 3)) "_top") (sFld K (tVar 0) (tOp (rI (fun _ j => j ≠ 0 ∧ j.natAbs.log2 < 9000) fun i j => .int (i.fdiv j)) (tVar 2) (tVar 3)) "_bottom")
          { nx := fun _ H' => Q .non H', rt := Q } [some (.ref a), some (.int t), some (.int b), some (.int c)] H := by
      intro c c0 cl e1 e2
      refine ⟨_, rfl, _, rfl, _, _, rfl, rfl, ⟨c0, cl⟩, _, rfl, a, _, dx, _, rfl, ea, T.cl, T.nT, (by decide), ?_⟩
      refine ⟨_, rfl, _, rfl, _, _, rfl, rfl, ⟨c0, cl⟩, _, rfl, a, _, dx, _, rfl, upd_same, T.cl, T.nB, (by show 1 < 1000; decide), ?_⟩
      dsimp only
      rw [e1, e2]
      exact k _ upd_same fun c o ne e => by rw [upd_ne ne, upd_ne ne]; exact e
    have N := norm (t := t) hb
    have g0 : 0 < t.natAbs.gcd b.natAbs := Nat.gcd_pos_of_pos_right _ (Int.natAbs_pos.mpr hb)
    have gl : (t.natAbs.gcd b.natAbs).log2 < 9000 := log2_lt (Nat.lt_of_le_of_lt (Nat.gcd_le_right _ (Int.natAbs_pos.mpr hb)) hz) (by decide)
    refine ⟨_, rfl, _, _, rfl, rfl, _, rfl, ?_⟩
    refine ite2 (fun c => ?_) (fun c => ?_)
    · rw [if_pos (of_decide_eq_true c)] at N
      exact ⟨_, rfl, _, rfl, t, b, rfl, go _ (by omega) gl N.1 N.2⟩
    · rw [if_neg fun z => c (decide_eq_true z)] at N
      exact ⟨_, rfl, _, rfl, t, b, rfl, _, rfl, go _ (by omega) (by rw [Int.natAbs_neg]; exact gl) N.1 N.2⟩
end
end K18
set_option maxHeartbeats 4000000
namespace K18
open PySem PySem.Spec PyProof.Rows L2 GL
section
variable {P : Program} {w : World} {K : PySem.W.Frag} {mg : Str → Option Value} {base : Heap}
/-- Ratio.__init__ without a bottom -/
theorem rInit_binds {f : Addr} {fd : FuncData} {i : Int} (F : FunD K "__init__" "Ratio.__init__" (defArgs (sRatio 0)) (defBody (sRatio 0)) (defScope (sRatio 0)) [.int i] [] f fd) :
    ∃ d : Value, Vals [V.int i] [d] ∧ Binds K fd ["self", "top", "bottom"] [d] ∧ Binds K fd ["self", "top", "bottom"] [] := by
  obtain ⟨oc, od, dV, kV, doc, pm, an, cdv, ct, osl, rfl, lk, hcd, hD, hK⟩ := F.ex
  rcases hD with ⟨z, _⟩ | ⟨_, T, o, its, n, rfl, lT, hdata, hv⟩
  · cases z
  cases hv with
  | cons r0 rest =>
    cases rest
    rename_i d
    refine ⟨d, .cons r0 .nil, fun s us kin hl => ?_, fun s us kin hl => ?_⟩
    · have l2 : us.length = 2 := by
        rw [List.length_append] at hl
        exact Nat.succ.inj hl
      match us, l2 with
      | [a, b], _ => exact BindsTo.of_looks fun M => looks_items (its := #[d]) kin lT hdata (.of_pure rfl)
    · have l2 : us.length = 3 := by
        rw [List.append_nil] at hl
        exact hl
      match us, l2 with
      | [a, b, c], _ => exact BindsTo.of_looks fun M => looks_items (its := #[d]) kin lT hdata (.of_pure rfl)
end
end K18
set_option maxHeartbeats 4000000
namespace K18
open PySem PySem.Spec PyProof.Rows L2 GL
/-- Ratio(a, b), its parts at the end of the call -/
theorem made_rat {K : PySem.W.Frag} {H : Hp} {Q : VK} {E : XK} {x dx : Addr} {t b : Int} (hx : H x = none) (hd : H dx = none) (ne : dx ≠ x) (hb : b ≠ 0) (hz : b.natAbs < 2 ^ 9000) (k : ∀ p H', Same H H' → H p = none → RatAt K H' p (Rat.divInt t b) → Q (.ref p) H') :
    spRInit K [.ref x, .int t, .int b] (upd (upd H dx (.own x)) x (.ins (aR K) dx [])) (fun v H2 => v = .non ∧ Q (.ref x) H2) E :=
  ⟨x, dx, t, b, rfl, hb, hz, upd_same, fun H' e kp => ⟨rfl, k x H' (fun c o ec => kp c o (ne_of_none ec hx) (by rw [upd_ne (ne_of_none ec hx), upd_ne (ne_of_none ec hd)]; exact ec)) hx ⟨dx, e⟩⟩⟩
/-- the parts of Ratio that others call -/
structure RG (P : Program) (w : World) (K : PySem.W.Frag) (mg : Str → Option Value) (base : Heap) : Prop where
  T : RF K mg
  kr : PySem.W.kitOne K (.type "int") (.ref (aR K)) = some false
  isInt : ∃ f fd, FnOk P w K mg base CX0 1 f fd ["value"] (spIsInt K) ∧ mg "is_integer" = some (.ref f) ∧ Binds K fd ["value"] [] ∧ PySem.W.keepIn K (.ref f) = true
  mR : ∃ f fd d, Mk K (aR K) f ∧ FnOk P w K mg base CX0 2 f fd ["self", "top", "bottom"] (spRInit K) ∧ Vals [V.int 1] [d] ∧ Binds K fd ["self", "top", "bottom"] [d] ∧ Binds K fd ["self", "top", "bottom"] []
section
variable {P : Program} {w : World} {K : PySem.W.Frag} {mg : Str → Option Value} {base : Heap}
/-! ### Ratio.of -/
def spOf (K : PySem.W.Frag) : Sp := fun vs H Q _ => ∃ (x : V) (q : Rat), vs = [.ref (aR K), x] ∧ NumAt K H x q ∧ ∀ p H', Same H H' → RatAt K H' p q → Q (.ref p) H'
theorem scOf : FnScope ["cls", "number"] ["cls", "number"] (defScope (sRatio 1)) := ⟨rfl, rfl, rfl, by decide +kernel, rfl, by decide +kernel, by decide +kernel⟩
theorem ok_of {f : Addr} {fd : FuncData} (F : FunD K "of" "Ratio.of" (defArgs (sRatio 1)) (defBody (sRatio 1)) (defScope (sRatio 1)) [] [] f fd) (G : RG P w K mg base) : FnOk P w K mg base CX0 4 f fd ["cls", "number"] (spOf K) := by
  obtain ⟨fR, fdR, d, MR, GR, vd, bR, _⟩ := G.mR
  have T := G.T
  refine F.ok scOf (fun vs H Q E h => ?_) (fun cdv A outer s H vs Q E hr h => ?_)
  · obtain ⟨x, q, rfl, _⟩ := h
    rfl
  · obtain ⟨x, q, rfl, hx, k⟩ := h
    refine ⟨_, pss_cons (ps_if (pt_val (pe_callB call_isi (by rfl) T.isi (by decide +kernel) (pa_cons (pv 1) (pa_cons (pe_glob (v := .ref (aR K)) rfl T.gR rfl) pa_nil)))) (pss_one (ps_ret (pv 1))) pss_nil)
      (pss_one (ps_ret (pe_make MR GR hr rfl T.gR bR vd pass0 (pa_cons (pv 1) pa_nil)))), ?_⟩
    rcases hx with ⟨i, rfl, rfl⟩ | ⟨p, rfl, hp⟩
    · refine ⟨_, rfl, .int i, .ref (aR K), .type "int", _, false, rfl, .own _, .base (.int i), G.kr, false, rfl, ?_⟩
      refine iteF ⟨_, rfl, fun x dx hx hd ne => ?_⟩
      refine made_rat hx hd ne (by decide) (by show 1 < 2 ^ 9000; exact Nat.one_lt_two_pow (by decide)) fun p H' kp _ r => k p H' kp ?_
      have e : Rat.divInt i 1 = (i : Rat) := by
        have := Rat.num_divInt_den (i : Rat)
        rw [Rat.num_intCast, Rat.den_intCast] at this
        exact this
      rw [← e]
      exact r
    · exact ⟨_, rfl, .ref p, .ref (aR K), .ref (aR K), _, true, rfl, .own _, hp.ty T, (by unfold PySem.W.kitOne; rw [if_pos (beq_self_eq_true _)]), true, rfl, iteT ⟨_, rfl, k p _ (fun _ _ e => e) hp⟩⟩
end
end K18
set_option maxHeartbeats 4000000
namespace K18
open PySem PySem.Spec PyProof.Rows L2 GL
theorem fnR_of {P : Program} {w : World} {K : PySem.W.Frag} {mg : Str → Option Value} {base : Heap} {CX : CXT} {k : Nat} {f : Addr} {fd : FuncData} {ps : List Str} {sp : Sp} (F : FnOk P w K mg base CX k f fd ps sp) (hb : Binds K fd ps []) : FnR P w K mg base CX k f sp := by
  intro A outer s H us vs Q E hr e0 rv hsp
  have inS : K.In s.heap := e0.mod.kin.keeps fun b o e => (e0.bs b o e).1
  have hl : us.length = ps.length := rv.length.symm.trans (F.len _ _ _ _ hsp)
  have b := hb s us inS (by rw [List.append_nil]; exact hl)
  rw [List.append_nil] at b
  exact F.run A outer s H ⟨us, []⟩ us vs Q E hr e0 b rv hsp
/-- how long the parts are -/
def Sz (n : Nat) (q : Rat) : Prop := q.num.natAbs < 2 ^ n ∧ q.den < 2 ^ n
theorem Sz.mono {n m : Nat} {q : Rat} (h : Sz n q) (k : n ≤ m) : Sz m q := ⟨Nat.lt_of_lt_of_le h.1 (Nat.pow_le_pow_right (by decide) k), Nat.lt_of_lt_of_le h.2 (Nat.pow_le_pow_right (by decide) k)⟩
theorem Sz.den {n : Nat} {q : Rat} (h : Sz n q) : (q.den : Int).natAbs < 2 ^ n := by rw [Int.natAbs_natCast]; exact h.2
def rBelow (q r : Rat) : Bool := decide (q.num * (r.den : Int) < r.num * (q.den : Int))
def rOver (q r : Rat) : Rat := Rat.divInt (q.num * (r.den : Int)) ((q.den : Int) * r.num)
def rAdd (q r : Rat) : Rat := Rat.divInt (q.num * (r.den : Int) + r.num * (q.den : Int)) ((q.den : Int) * (r.den : Int))
def rSub (q r : Rat) : Rat := Rat.divInt (q.num * (r.den : Int) - r.num * (q.den : Int)) ((q.den : Int) * (r.den : Int))
def rMul (q r : Rat) : Rat := Rat.divInt (q.num * r.num) ((q.den : Int) * (r.den : Int))
def rNeg (q : Rat) : Rat := Rat.divInt (-q.num) (q.den : Int)
theorem mul_lt {i j : Int} {n m : Nat} (h : i.natAbs < 2 ^ n) (k : j.natAbs < 2 ^ m) : (i * j).natAbs < 2 ^ (n + m) := by
  rw [Int.natAbs_mul, Nat.pow_add]
  exact Nat.mul_lt_mul'' h k
structure RH (P : Program) (w : World) (K : PySem.W.Frag) (mg : Str → Option Value) (base : Heap) : Prop where
  G : RG P w K mg base
  of : ∃ mc p f, ClX.CRead K (aR K) mc ∧ ClX.CMet K (aR K) mc "of" p f ∧ FnR P w K mg base CX0 4 f (spOf K)
section
variable {P : Program} {w : World} {K : PySem.W.Frag} {mg : Str → Option Value} {base : Heap}
/-! ### is_below -/
def spBelow (K : PySem.W.Frag) : Sp := fun vs H Q _ => ∃ (a : Addr) (y : V) (q r : Rat), vs = [.ref a, y] ∧ RatAt K H a q ∧ NumAt K H y r ∧ Sz 100000 q ∧ Sz 100000 r ∧ ∀ H', Same H H' → Q (.bl (rBelow q r)) H'
theorem scBelow : FnScope ["self", "other", "right"] ["self", "other"] (defScope (sRatio 7)) := ⟨rfl, rfl, rfl, by decide +kernel, rfl, by decide +kernel, by decide +kernel⟩
theorem ok_below {f : Addr} {fd : FuncData} (F : FunD K "is_below" "Ratio.is_below" (defArgs (sRatio 7)) (defBody (sRatio 7)) (defScope (sRatio 7)) [] [] f fd) (R : RH P w K mg base) : FnOk P w K mg base CX0 5 f fd ["self", "other"] (spBelow K) := by
  obtain ⟨mc, pp, fo, cr, cm, GO⟩ := R.of
  have T := R.G.T
  refine F.ok scBelow (fun vs H Q E h => ?_) (fun cdv A outer s H vs Q E hr h => ?_)
  · obtain ⟨a, y, q, r, rfl, _⟩ := h
    rfl
  · obtain ⟨a, y, q, r, rfl, ha, hy, sq, sr, k⟩ := h
    refine ⟨_, pss_cons (ps_set (i := 2) scBelow.nd rfl (Or.inl rfl) (ClX.pe_cmeth (pe_glob (v := .ref (aR K)) rfl T.gR rfl) cr cm GO hr pass0 (pa_cons (pv 1) pa_nil)))
      (pss_one (ps_ret (pe_cmpR op_lt (pe_op op_mulW (pe_fld (pv 0) rfl) (pe_fld (pv 2) rfl)) (pe_op op_mulW (pe_fld (pv 2) rfl) (pe_fld (pv 0) rfl)) (nomark _)))), ?_⟩
    refine ⟨rfl, _, rfl, y, r, rfl, hy, fun p H' kp hp => ?_⟩
    obtain ⟨dx, ea⟩ := ha.same kp
    obtain ⟨dy, ep⟩ := hp
    refine ⟨_, rfl, a, _, dx, _, _, rfl, ea, T.cl, T.nT, rfl, _, rfl, p, _, dy, _, _, rfl, ep, T.cl, T.nB, rfl, _, _, rfl, rfl, wide_mul sq.1 sr.den (by decide) (by decide) (by decide), ?_⟩
    refine ⟨_, rfl, p, _, dy, _, _, rfl, ep, T.cl, T.nT, rfl, _, rfl, a, _, dx, _, _, rfl, ea, T.cl, T.nB, rfl, _, _, rfl, rfl, wide_mul sr.1 sq.den (by decide) (by decide) (by decide), ?_⟩
    exact ⟨_, _, rfl, rfl, k H' kp⟩
end
end K18
set_option maxHeartbeats 4000000
namespace K18
open PySem PySem.Spec PyProof.Rows L2 GL
theorem divInt_sz {t b : Int} {n : Nat} (hb : b ≠ 0) (ht : t.natAbs < 2 ^ n) (hz : b.natAbs < 2 ^ n) : Sz n (Rat.divInt t b) := by
  constructor
  · rw [Rat.num_divInt]
    refine Nat.lt_of_le_of_lt ?_ ht
    rw [Int.natAbs_ediv_of_dvd]
    · refine Nat.le_trans (Nat.div_le_self _ _) ?_
      rw [Int.natAbs_mul, Int.natAbs_sign_of_ne_zero hb, Nat.one_mul]
      exact Nat.le_refl _
    · exact Int.dvd_mul_of_dvd_right (Int.gcd_dvd_right _ _)
  · rw [Rat.den_divInt, if_neg hb]
    exact Nat.lt_of_le_of_lt (Nat.div_le_self _ _) hz
theorem den_ne (q : Rat) : (q.den : Int) ≠ 0 := by
  have := q.den_nz
  omega
section
variable {P : Program} {w : World} {K : PySem.W.Frag} {mg : Str → Option Value} {base : Heap}
/-! ### over -/
def spBin (K : PySem.W.Frag) (g : Rat → Rat → Rat) (C : Rat → Rat → Prop) : Sp := fun vs H Q _ => ∃ (a : Addr) (y : V) (q r : Rat), vs = [.ref a, y] ∧ RatAt K H a q ∧ NumAt K H y r ∧ Sz 4000 q ∧ Sz 4000 r ∧ C q r ∧ ∀ p H', Same H H' → RatAt K H' p (g q r) → Q (.ref p) H'
theorem scOver : FnScope ["self", "other", "right"] ["self", "other"] (defScope (sRatio 8)) := ⟨rfl, rfl, rfl, by decide +kernel, rfl, by decide +kernel, by decide +kernel⟩
theorem ok_over {f : Addr} {fd : FuncData} (F : FunD K "over" "Ratio.over" (defArgs (sRatio 8)) (defBody (sRatio 8)) (defScope (sRatio 8)) [] [] f fd) (R : RH P w K mg base) : FnOk P w K mg base CX0 5 f fd ["self", "other"] (spBin K rOver fun _ r => r.num ≠ 0) := by
  obtain ⟨mc, pp, fo, cr, cm, GO⟩ := R.of
  obtain ⟨fR, fdR, d, MR, GR, vd, _, bR⟩ := R.G.mR
  have T := R.G.T
  refine F.ok scOver (fun vs H Q E h => ?_) (fun cdv A outer s H vs Q E hr h => ?_)
  · obtain ⟨a, y, q, r, rfl, _⟩ := h
    rfl
  · obtain ⟨a, y, q, r, rfl, ha, hy, sq, sr, r0, k⟩ := h
    refine ⟨_, pss_cons (ps_set (i := 2) scOver.nd rfl (Or.inl rfl) (ClX.pe_cmeth (pe_glob (v := .ref (aR K)) rfl T.gR rfl) cr cm GO hr pass0 (pa_cons (pv 1) pa_nil)))
      (pss_cons (ps_if (pt_cmpR op_eq (pe_fld (pv 2) rfl) pe_int (nomark _)) (pss_one ps_never) pss_nil)
      (pss_one (ps_ret (pe_make MR GR (hr.mono (by decide)) rfl T.gR bR .nil pass0 (pa_cons (pe_op op_mulW (pe_fld (pv 0) rfl) (pe_fld (pv 2) rfl)) (pa_cons (pe_op op_mulW (pe_fld (pv 0) rfl) (pe_fld (pv 2) rfl)) pa_nil)))))), ?_⟩
    refine ⟨rfl, _, rfl, y, r, rfl, hy, fun p H' kp hp => ?_⟩
    obtain ⟨dx, ea⟩ := ha.same kp
    obtain ⟨dy, ep⟩ := hp
    refine ⟨_, rfl, p, _, dy, _, _, rfl, ep, T.cl, T.nT, rfl, rfl, _, rfl, ?_⟩
    have e0 : decide (V.int r.num = V.int 0) = false := decide_eq_false fun z => r0 (by injection z)
    dsimp only
    rw [e0]
    refine iteF ?_
    refine ⟨_, rfl, a, _, dx, _, _, rfl, ea, T.cl, T.nT, rfl, _, rfl, p, _, dy, _, _, rfl, ep, T.cl, T.nB, rfl, _, _, rfl, rfl, wide_mul sq.1 sr.den (by decide) (by decide) (by decide), ?_⟩
    refine ⟨_, rfl, a, _, dx, _, _, rfl, ea, T.cl, T.nB, rfl, _, rfl, p, _, dy, _, _, rfl, ep, T.cl, T.nT, rfl, _, _, rfl, rfl, wide_mul sq.den sr.1 (by decide) (by decide) (by decide), ?_⟩
    intro x dz hx hd ne
    have b0 : (q.den : Int) * r.num ≠ 0 := Int.mul_ne_zero (den_ne q) r0
    exact made_rat hx hd ne b0 (Nat.lt_of_lt_of_le (mul_lt sq.den sr.1) (Nat.pow_le_pow_right (by decide) (by decide))) fun p2 H2 kp2 _ hr2 => k p2 H2 (kp.trans kp2) hr2
/-! ### __add__ -/
theorem scAdd : FnScope ["self", "other", "right"] ["self", "other"] (defScope (sRatio 9)) := ⟨rfl, rfl, rfl, by decide +kernel, rfl, by decide +kernel, by decide +kernel⟩
theorem ok_rAdd {f : Addr} {fd : FuncData} (F : FunD K "__add__" "Ratio.__add__" (defArgs (sRatio 9)) (defBody (sRatio 9)) (defScope (sRatio 9)) [] [] f fd) (R : RH P w K mg base) : FnOk P w K mg base CX0 5 f fd ["self", "other"] (spBin K rAdd fun _ _ => True) := by
  obtain ⟨mc, pp, fo, cr, cm, GO⟩ := R.of
  obtain ⟨fR, fdR, d, MR, GR, vd, _, bR⟩ := R.G.mR
  have T := R.G.T
  refine F.ok scAdd (fun vs H Q E h => ?_) (fun cdv A outer s H vs Q E hr h => ?_)
  · obtain ⟨a, y, q, r, rfl, _⟩ := h
    rfl
  · obtain ⟨a, y, q, r, rfl, ha, hy, sq, sr, _, k⟩ := h
    refine ⟨_, pss_cons (ps_set (i := 2) scAdd.nd rfl (Or.inl rfl) (ClX.pe_cmeth (pe_glob (v := .ref (aR K)) rfl T.gR rfl) cr cm GO hr pass0 (pa_cons (pv 1) pa_nil)))
      (pss_one (ps_ret (pe_make MR GR (hr.mono (by decide)) rfl T.gR bR .nil pass0 (pa_cons (pe_op op_add (pe_op op_mulW (pe_fld (pv 0) rfl) (pe_fld (pv 2) rfl)) (pe_op op_mulW (pe_fld (pv 2) rfl) (pe_fld (pv 0) rfl))) (pa_cons (pe_op op_mulW (pe_fld (pv 0) rfl) (pe_fld (pv 2) rfl)) pa_nil))))), ?_⟩
    refine ⟨rfl, _, rfl, y, r, rfl, hy, fun p H' kp hp => ?_⟩
    obtain ⟨dx, ea⟩ := ha.same kp
    obtain ⟨dy, ep⟩ := hp
    refine ⟨_, rfl, a, _, dx, _, _, rfl, ea, T.cl, T.nT, rfl, _, rfl, p, _, dy, _, _, rfl, ep, T.cl, T.nB, rfl, _, _, rfl, rfl, wide_mul sq.1 sr.den (by decide) (by decide) (by decide), ?_⟩
    refine ⟨_, rfl, p, _, dy, _, _, rfl, ep, T.cl, T.nT, rfl, _, rfl, a, _, dx, _, _, rfl, ea, T.cl, T.nB, rfl, _, _, rfl, rfl, wide_mul sr.1 sq.den (by decide) (by decide) (by decide), ?_⟩
    refine ⟨_, _, rfl, rfl, ?_⟩
    refine ⟨_, rfl, a, _, dx, _, _, rfl, ea, T.cl, T.nB, rfl, _, rfl, p, _, dy, _, _, rfl, ep, T.cl, T.nB, rfl, _, _, rfl, rfl, wide_mul sq.den sr.den (by decide) (by decide) (by decide), ?_⟩
    intro x dz hx hd ne
    have b0 : (q.den : Int) * (r.den : Int) ≠ 0 := Int.mul_ne_zero (den_ne q) (den_ne r)
    exact made_rat hx hd ne b0 (Nat.lt_of_lt_of_le (mul_lt sq.den sr.den) (Nat.pow_le_pow_right (by decide) (by decide))) fun p2 H2 kp2 _ hr2 => k p2 H2 (kp.trans kp2) hr2
/-! ### __sub__ -/
theorem scSub : FnScope ["self", "other", "right"] ["self", "other"] (defScope (sRatio 10)) := ⟨rfl, rfl, rfl, by decide +kernel, rfl, by decide +kernel, by decide +kernel⟩
theorem ok_rSub {f : Addr} {fd : FuncData} (F : FunD K "__sub__" "Ratio.__sub__" (defArgs (sRatio 10)) (defBody (sRatio 10)) (defScope (sRatio 10)) [] [] f fd) (R : RH P w K mg base) : FnOk P w K mg base CX0 5 f fd ["self", "other"] (spBin K rSub fun _ _ => True) := by
  obtain ⟨mc, pp, fo, cr, cm, GO⟩ := R.of
  obtain ⟨fR, fdR, d, MR, GR, vd, _, bR⟩ := R.G.mR
  have T := R.G.T
  refine F.ok scSub (fun vs H Q E h => ?_) (fun cdv A outer s H vs Q E hr h => ?_)
  · obtain ⟨a, y, q, r, rfl, _⟩ := h
    rfl
  · obtain ⟨a, y, q, r, rfl, ha, hy, sq, sr, _, k⟩ := h
    refine ⟨_, pss_cons (ps_set (i := 2) scSub.nd rfl (Or.inl rfl) (ClX.pe_cmeth (pe_glob (v := .ref (aR K)) rfl T.gR rfl) cr cm GO hr pass0 (pa_cons (pv 1) pa_nil)))
      (pss_one (ps_ret (pe_make MR GR (hr.mono (by decide)) rfl T.gR bR .nil pass0 (pa_cons (pe_op op_sub (pe_op op_mulW (pe_fld (pv 0) rfl) (pe_fld (pv 2) rfl)) (pe_op op_mulW (pe_fld (pv 2) rfl) (pe_fld (pv 0) rfl))) (pa_cons (pe_op op_mulW (pe_fld (pv 0) rfl) (pe_fld (pv 2) rfl)) pa_nil))))), ?_⟩
    refine ⟨rfl, _, rfl, y, r, rfl, hy, fun p H' kp hp => ?_⟩
    obtain ⟨dx, ea⟩ := ha.same kp
    obtain ⟨dy, ep⟩ := hp
    refine ⟨_, rfl, a, _, dx, _, _, rfl, ea, T.cl, T.nT, rfl, _, rfl, p, _, dy, _, _, rfl, ep, T.cl, T.nB, rfl, _, _, rfl, rfl, wide_mul sq.1 sr.den (by decide) (by decide) (by decide), ?_⟩
    refine ⟨_, rfl, p, _, dy, _, _, rfl, ep, T.cl, T.nT, rfl, _, rfl, a, _, dx, _, _, rfl, ea, T.cl, T.nB, rfl, _, _, rfl, rfl, wide_mul sr.1 sq.den (by decide) (by decide) (by decide), ?_⟩
    refine ⟨_, _, rfl, rfl, ?_⟩
    refine ⟨_, rfl, a, _, dx, _, _, rfl, ea, T.cl, T.nB, rfl, _, rfl, p, _, dy, _, _, rfl, ep, T.cl, T.nB, rfl, _, _, rfl, rfl, wide_mul sq.den sr.den (by decide) (by decide) (by decide), ?_⟩
    intro x dz hx hd ne
    have b0 : (q.den : Int) * (r.den : Int) ≠ 0 := Int.mul_ne_zero (den_ne q) (den_ne r)
    exact made_rat hx hd ne b0 (Nat.lt_of_lt_of_le (mul_lt sq.den sr.den) (Nat.pow_le_pow_right (by decide) (by decide))) fun p2 H2 kp2 _ hr2 => k p2 H2 (kp.trans kp2) hr2
/-! ### __mul__ -/
theorem scMul : FnScope ["self", "other", "right"] ["self", "other"] (defScope (sRatio 11)) := ⟨rfl, rfl, rfl, by decide +kernel, rfl, by decide +kernel, by decide +kernel⟩
theorem ok_rMul {f : Addr} {fd : FuncData} (F : FunD K "__mul__" "Ratio.__mul__" (defArgs (sRatio 11)) (defBody (sRatio 11)) (defScope (sRatio 11)) [] [] f fd) (R : RH P w K mg base) : FnOk P w K mg base CX0 5 f fd ["self", "other"] (spBin K rMul fun _ _ => True) := by
  obtain ⟨mc, pp, fo, cr, cm, GO⟩ := R.of
  obtain ⟨fR, fdR, d, MR, GR, vd, _, bR⟩ := R.G.mR
  have T := R.G.T
  refine F.ok scMul (fun vs H Q E h => ?_) (fun cdv A outer s H vs Q E hr h => ?_)
  · obtain ⟨a, y, q, r, rfl, _⟩ := h
    rfl
  · obtain ⟨a, y, q, r, rfl, ha, hy, sq, sr, _, k⟩ := h
    refine ⟨_, pss_cons (ps_set (i := 2) scMul.nd rfl (Or.inl rfl) (ClX.pe_cmeth (pe_glob (v := .ref (aR K)) rfl T.gR rfl) cr cm GO hr pass0 (pa_cons (pv 1) pa_nil)))
      (pss_one (ps_ret (pe_make MR GR (hr.mono (by decide)) rfl T.gR bR .nil pass0 (pa_cons (pe_op op_mulW (pe_fld (pv 0) rfl) (pe_fld (pv 2) rfl)) (pa_cons (pe_op op_mulW (pe_fld (pv 0) rfl) (pe_fld (pv 2) rfl)) pa_nil))))), ?_⟩
    refine ⟨rfl, _, rfl, y, r, rfl, hy, fun p H' kp hp => ?_⟩
    obtain ⟨dx, ea⟩ := ha.same kp
    obtain ⟨dy, ep⟩ := hp
    refine ⟨_, rfl, a, _, dx, _, _, rfl, ea, T.cl, T.nT, rfl, _, rfl, p, _, dy, _, _, rfl, ep, T.cl, T.nT, rfl, _, _, rfl, rfl, wide_mul sq.1 sr.1 (by decide) (by decide) (by decide), ?_⟩
    refine ⟨_, rfl, a, _, dx, _, _, rfl, ea, T.cl, T.nB, rfl, _, rfl, p, _, dy, _, _, rfl, ep, T.cl, T.nB, rfl, _, _, rfl, rfl, wide_mul sq.den sr.den (by decide) (by decide) (by decide), ?_⟩
    intro x dz hx hd ne
    have b0 : (q.den : Int) * (r.den : Int) ≠ 0 := Int.mul_ne_zero (den_ne q) (den_ne r)
    exact made_rat hx hd ne b0 (Nat.lt_of_lt_of_le (mul_lt sq.den sr.den) (Nat.pow_le_pow_right (by decide) (by decide))) fun p2 H2 kp2 _ hr2 => k p2 H2 (kp.trans kp2) hr2
end
end K18
set_option maxHeartbeats 4000000
namespace K18
open PySem PySem.Spec PyProof.Rows L2 GL
section
variable {P : Program} {w : World} {K : PySem.W.Frag} {mg : Str → Option Value} {base : Heap}
/-! ### __neg__ -/
def spNeg (K : PySem.W.Frag) : Sp := fun vs H Q _ => ∃ (a : Addr) (q : Rat), vs = [.ref a] ∧ RatAt K H a q ∧ Sz 4000 q ∧ ∀ p H', Same H H' → RatAt K H' p (rNeg q) → Q (.ref p) H'
theorem scNeg : FnScope ["self"] ["self"] (defScope (sRatio 12)) := ⟨rfl, rfl, rfl, by decide +kernel, rfl, by decide +kernel, by decide +kernel⟩
theorem ok_rNeg {f : Addr} {fd : FuncData} (F : FunD K "__neg__" "Ratio.__neg__" (defArgs (sRatio 12)) (defBody (sRatio 12)) (defScope (sRatio 12)) [] [] f fd) (G : RG P w K mg base) : FnOk P w K mg base CX0 4 f fd ["self"] (spNeg K) := by
  obtain ⟨fR, fdR, d, MR, GR, vd, _, bR⟩ := G.mR
  have T := G.T
  refine F.ok scNeg (fun vs H Q E h => ?_) (fun cdv A outer s H vs Q E hr h => ?_)
  · obtain ⟨a, q, rfl, _⟩ := h
    rfl
  · obtain ⟨a, q, rfl, ⟨dx, ea⟩, sq, k⟩ := h
    refine ⟨_, pss_one (ps_ret (pe_make MR GR hr rfl T.gR bR .nil pass0 (pa_cons (pe_un un_neg (pe_fld (pv 0) rfl)) (pa_cons (pe_fld (pv 0) rfl) pa_nil)))), ?_⟩
    refine ⟨_, rfl, a, _, dx, _, _, rfl, ea, T.cl, T.nT, rfl, _, rfl, _, rfl, a, _, dx, _, _, rfl, ea, T.cl, T.nB, rfl, ?_⟩
    intro x dz hx hd ne
    exact made_rat hx hd ne (den_ne q) (Nat.lt_of_lt_of_le sq.den (Nat.pow_le_pow_right (by decide) (by decide))) fun p2 H2 kp2 _ hr2 => k p2 H2 kp2 hr2
/-! ### __eq__ -/
def spREq (K : PySem.W.Frag) : Sp := fun vs H Q _ => ∃ (a : Addr) (y : V) (q : Rat), vs = [.ref a, y] ∧ RatAt K H a q ∧
  ((∃ b r, y = .ref b ∧ RatAt K H b r ∧ Q (.bl (decide (q = r))) H) ∨ ∃ t, TyX K H y t ∧ PySem.W.kitOne K t (.ref (aR K)) = some false ∧ Q (.bl false) H)
theorem scREq : FnScope ["self", "other"] ["self", "other"] (defScope (sRatio 13)) := ⟨rfl, rfl, rfl, by decide +kernel, rfl, by decide +kernel, by decide +kernel⟩
theorem ok_rEq {f : Addr} {fd : FuncData} (F : FunD K "__eq__" "Ratio.__eq__" (defArgs (sRatio 13)) (defBody (sRatio 13)) (defScope (sRatio 13)) [] [] f fd) (T : RF K mg) : FnOk P w K mg base CX0 1 f fd ["self", "other"] (spREq K) := by
  refine F.ok scREq (fun vs H Q E h => ?_) (fun cdv A outer s H vs Q E hr h => ?_)
  · obtain ⟨a, y, q, rfl, _⟩ := h
    rfl
  · obtain ⟨a, y, q, rfl, ha, h⟩ := h
    refine ⟨_, pss_one (ps_ret (pe_and (pe_callB call_isi (by rfl) T.isi (by decide +kernel) (pa_cons (pv 1) (pa_cons (pe_glob (v := .ref (aR K)) rfl T.gR rfl) pa_nil)))
      (pe_and (pe_cmpR op_eq (pe_fld (pv 0) rfl) (pe_fld (pv 1) rfl) (nomark _)) (pe_one (pe_cmpR op_eq (pe_fld (pv 0) rfl) (pe_fld (pv 1) rfl) (nomark _)))))), ?_⟩
    rcases h with ⟨b, r, rfl, hb, k⟩ | ⟨t, ty, kt, k⟩
    · refine ⟨_, rfl, .ref b, .ref (aR K), .ref (aR K), _, true, rfl, .own _, hb.ty T, (by unfold PySem.W.kitOne; rw [if_pos (beq_self_eq_true _)]), true, rfl, iteT ?_⟩
      obtain ⟨dx, ea⟩ := ha
      obtain ⟨dy, eb⟩ := hb
      refine ⟨_, rfl, a, _, dx, _, _, rfl, ea, T.cl, T.nT, rfl, _, rfl, b, _, dy, _, _, rfl, eb, T.cl, T.nT, rfl, rfl, _, rfl, ?_⟩
      refine ite2 (fun c => ?_) (fun c => ?_)
      · have c1 : q.num = r.num := by
          have := of_decide_eq_true c
          injection this
        refine ⟨_, rfl, a, _, dx, _, _, rfl, ea, T.cl, T.nB, rfl, _, rfl, b, _, dy, _, _, rfl, eb, T.cl, T.nB, rfl, rfl, ?_⟩
        have e : decide (V.int (q.den : Int) = V.int (r.den : Int)) = decide (q = r) := by
          rw [decide_eq_decide]
          constructor
          · intro z
            injection z with z
            exact Rat.ext c1 (by omega)
          · rintro rfl
            rfl
        rw [e]
        exact k
      · have e : decide (q = r) = false := by
          refine decide_eq_false ?_
          rintro rfl
          exact c (decide_eq_true rfl)
        rw [e] at k
        exact k
    · exact ⟨_, rfl, y, .ref (aR K), t, _, false, rfl, .own _, ty, kt, false, rfl, iteF k⟩
/-! ### sign -/
end
end K18
set_option maxHeartbeats 4000000
namespace K18
open PySem PySem.Spec PyProof.Rows L2 GL
/-- more parts of Ratio -/
structure RI (P : Program) (w : World) (K : PySem.W.Frag) (mg : Str → Option Value) (base : Heap) : Prop where
  R : RH P w K mg base
  isNum : ∃ f fd, FnOk P w K mg base CX0 2 f fd ["value"] (spIsNum K) ∧ mg "is_number" = some (.ref f) ∧ Binds K fd ["value"] [] ∧ PySem.W.keepIn K (.ref f) = true
  below : ∃ f fd, Meth K (aR K) "is_below" f ∧ FnOk P w K mg base CX0 5 f fd ["self", "other"] (spBelow K) ∧ Binds K fd ["self", "other"] []
  eq : ∃ f, OwnEq K (aR K) f ∧ FnR P w K mg base CX0 1 f (spREq K)
  len : mg "len" = none
  tuple : mg "tuple" = none
/-- a cut: a NUMBER, and whether it is just above -/
def CutAt (K : PySem.W.Frag) (H : Hp) (x : V) (q : Rat) (b : Bool) : Prop := ∃ c v, x = .ref c ∧ H c = some (.tup [v, .bl b]) ∧ NumAt K H v q
theorem CutAt.same {K : PySem.W.Frag} {H H' : Hp} {x : V} {q : Rat} {b : Bool} (h : CutAt K H x q b) (k : Same H H') : CutAt K H' x q b := by
  obtain ⟨c, v, e, hc, hv⟩ := h
  exact ⟨c, v, e, k _ _ hc, hv.same k⟩
section
variable {P : Program} {w : World} {K : PySem.W.Frag} {mg : Str → Option Value} {base : Heap}
/-! ### is_cut -/
/-! ### ratio_cut -/
end
end K18
set_option maxHeartbeats 4000000
namespace K18
open PySem PySem.Spec PyProof.Rows L2 GL
/-- what the functions on cuts call -/
structure RJ (P : Program) (w : World) (K : PySem.W.Frag) (mg : Str → Option Value) (base : Heap) : Prop where
  I : RI P w K mg base
section
variable {P : Program} {w : World} {K : PySem.W.Frag} {mg : Str → Option Value} {base : Heap}
/-! ### is_above -/
/-! ### precedes -/
/-! ### is_ahead -/
end
end K18
set_option maxHeartbeats 4000000
namespace K18
open PySem PySem.Spec PyProof.Rows L2 GL
theorem rAdd_sz {q r : Rat} {n : Nat} (h : Sz n q) (k : Sz n r) : Sz (n + n + 1) (rAdd q r) := by
  refine divInt_sz (Int.mul_ne_zero (den_ne q) (den_ne r)) ?_ (Nat.lt_of_lt_of_le (mul_lt h.den k.den) (Nat.pow_le_pow_right (by decide) (by omega)))
  have a := mul_lt h.1 k.den
  have b := mul_lt k.1 h.den
  have c := Int.natAbs_add_le (q.num * (r.den : Int)) (r.num * (q.den : Int))
  rw [Nat.pow_succ]
  omega
/-- the parts of the program that deal with cuts -/
structure RK (P : Program) (w : World) (K : PySem.W.Frag) (mg : Str → Option Value) (base : Heap) : Prop where
  J : RJ P w K mg base
  add : ∃ f, OwnBin K (aR K) .Add f ∧ FnR P w K mg base CX0 5 f (spBin K rAdd fun _ _ => True)
  over : ∃ f fd, Meth K (aR K) "over" f ∧ FnOk P w K mg base CX0 5 f fd ["self", "other"] (spBin K rOver fun _ r => r.num ≠ 0) ∧ Binds K fd ["self", "other"] []
section
variable {P : Program} {w : World} {K : PySem.W.Frag} {mg : Str → Option Value} {base : Heap}
/-! ### is_stretch -/
/-! ### is_within -/
end
end K18
set_option maxHeartbeats 4000000
namespace K18
open PySem PySem.Spec PyProof.Rows L2 GL
theorem ins_fs {C D d e : Addr} {fs gs : List (Str × V)} (h : some (HO.ins C d fs) = some (HO.ins D e gs)) : fs = gs := by
  injection h with h
  injection h
section
variable {P : Program} {w : World} {K : PySem.W.Frag} {mg : Str → Option Value} {base : Heap}
/-! ### Range.__init__ -/
end
end K18
set_option maxHeartbeats 4000000
namespace K18
open PySem PySem.Spec PyProof.Rows L2 GL
/-- the parts of Range that others call -/
structure RL (P : Program) (w : World) (K : PySem.W.Frag) (mg : Str → Option Value) (base : Heap) : Prop where
  C : RK P w K mg base
section
variable {P : Program} {w : World} {K : PySem.W.Frag} {mg : Str → Option Value} {base : Heap}
/-! ### is_inner -/
/-! ### fit -/
end
end K18
set_option maxHeartbeats 4000000
namespace K18
open PySem PySem.Spec PyProof.Rows L2 GL
abbrev sMove (j : Nat) : Stmt := inClass (tp 25) j
abbrev aM (K : PySem.W.Frag) : Addr := He.ga K "Move"
abbrev sChkDiv : Stmt := tp 26
abbrev sChkPart : Stmt := tp 27
structure MF (K : PySem.W.Frag) (mg : Str → Option Value) : Prop where
  cl : Cls K (aM K)
  nD : NoAttr K (aM K) "_divisor"
  nP : NoAttr K (aM K) "_plus"
  nL : NoAttr K (aM K) "_low"
  nH : NoAttr K (aM K) "_high"
  kc : PySem.W.findIn K (.ref (aM K)) "__class__" = some (some (.builtin "object.__class__"))
  sp : PySem.W.specialIn K (.builtin "object.__class__") "__get__" = some (some (.builtin "getset_descriptor.__get__"))
  tk : PySem.W.takesIn K (.builtin "object.__class__") = some true
  ob : PySem.W.mroIn K (aM K) (.type "object") = some true
  gM : mg "Move" = some (.ref (aM K))
/-- all but one thing stand -/
def Kp (s : Addr) (H H' : Hp) : Prop := ∀ c o, c ≠ s → H c = some o → H' c = some o
theorem Kp.put {s : Addr} {H H' : Hp} {o : HO} (k : Kp s H H') : Kp s H (upd H' s o) := fun c o' hc e => by rw [upd_ne hc]; exact k c o' hc e
theorem Kp.same {s : Addr} {H H' H'' : Hp} (k : Kp s H H') (j : Same H' H'') : Kp s H H'' := fun c o' hc e => j _ _ (k c o' hc e)
theorem notRat {K : PySem.W.Frag} {H : Hp} {s C dx a : Addr} {fs : List (Str × V)} {q : Rat} (e : H s = some (.ins C dx fs)) (hf : fs.lookup ("_top" : Str) = none) (h : RatAt K H a q) : a ≠ s := by
  obtain ⟨da, ea⟩ := h
  rintro rfl
  rw [e] at ea
  have z := ins_fs ea
  rw [z] at hf
  cases hf
theorem RatAt.kp {K : PySem.W.Frag} {H H' : Hp} {s a : Addr} {q : Rat} (h : RatAt K H a q) (ne : a ≠ s) (k : Kp s H H') : RatAt K H' a q := by
  obtain ⟨da, ea⟩ := h
  exact ⟨da, k _ _ ne ea⟩
theorem NumAt.kp {K : PySem.W.Frag} {H H' : Hp} {s C dx : Addr} {fs : List (Str × V)} {x : V} {q : Rat} (h : NumAt K H x q) (e : H s = some (.ins C dx fs)) (hf : fs.lookup ("_top" : Str) = none) (k : Kp s H H') : NumAt K H' x q := by
  rcases h with h | ⟨p, ex, hp⟩
  · exact .inl h
  · exact .inr ⟨p, ex, hp.kp (notRat e hf hp) k⟩
/-- a Move at an address -/
def MovAt (K : PySem.W.Frag) (H : Hp) (p : Addr) (d : Int) (u lo hi : Rat) : Prop := 1 ≤ d ∧ rBelow hi lo = false ∧ ∃ dx a b c, H p = some (.ins (aM K) dx [("_divisor", .int d), ("_plus", .ref a), ("_low", .ref b), ("_high", .ref c)]) ∧ RatAt K H a u ∧ RatAt K H b lo ∧ RatAt K H c hi
theorem MovAt.same {K : PySem.W.Frag} {H H' : Hp} {p : Addr} {d : Int} {u lo hi : Rat} (h : MovAt K H p d u lo hi) (k : Same H H') : MovAt K H' p d u lo hi := by
  obtain ⟨d1, l, dx, a, b, c, e, ha, hb, hc⟩ := h
  exact ⟨d1, l, dx, a, b, c, k _ _ e, ha.same k, hb.same k, hc.same k⟩
theorem MovAt.ty {K : PySem.W.Frag} {mg : Str → Option Value} {H : Hp} {p : Addr} {d : Int} {u lo hi : Rat} (T : MF K mg) (h : MovAt K H p d u lo hi) : TyX K H (.ref p) (.ref (aM K)) := by
  obtain ⟨_, _, dx, a, b, c, e, _⟩ := h
  exact .base (.ins e T.cl T.kc T.sp T.tk T.ob)
section
variable {P : Program} {w : World} {K : PySem.W.Frag} {mg : Str → Option Value} {base : Heap}
/-! ### the checks -/
def spChkDiv : Sp := fun vs H Q _ => ∃ d : Int, vs = [.int d] ∧ 1 ≤ d ∧ Q .non H
theorem scChkDiv : FnScope ["value"] ["value"] (defScope sChkDiv) := ⟨rfl, rfl, rfl, by decide +kernel, rfl, by decide +kernel, by decide +kernel⟩
theorem ok_chkDiv {f : Addr} {fd : FuncData} (F : Fun K "_check_divisor" "_check_divisor" sChkDiv f fd) (G : RG P w K mg base) : FnOk P w K mg base CX0 2 f fd ["value"] spChkDiv := by
  obtain ⟨fI, fdI, GI, gI, bI, kI⟩ := G.isInt
  refine F.ok scChkDiv (fun vs H Q E h => ?_) (fun cdv A outer s H vs Q E hr h => ?_)
  · obtain ⟨d, rfl, _⟩ := h
    rfl
  · obtain ⟨d, rfl, d1, k⟩ := h
    refine ⟨_, pss_one (ps_if (PW.pt (pw_or (pt_not (pt_val (pe_call GI hr rfl gI kI bI .nil pass0 (pa_cons (pv 0) pa_nil)))) (pw_or1 (pt_cmpR op_lt (pv 0) pe_int (nomark _))))) (pss_one ps_never) pss_nil), ?_⟩
    refine ⟨_, rfl, .int d, .type "int", true, false, rfl, .base (.int d), kit_ty (by decide +kernel), fun _ => kit_ty (by decide +kernel), true, rfl, ?_⟩
    refine iteF ⟨_, rfl, _, _, rfl, rfl, _, rfl, ?_⟩
    have e0 : decide (d < 1) = false := decide_eq_false (by omega)
    dsimp only
    rw [e0]
    exact iteF k
def spChkPart (K : PySem.W.Frag) : Sp := fun vs H Q _ => ∃ (n x : V) (q : Rat), vs = [n, x] ∧ NumAt K H x q ∧ Q .non H
theorem scChkPart : FnScope ["name", "value"] ["name", "value"] (defScope sChkPart) := ⟨rfl, rfl, rfl, by decide +kernel, rfl, by decide +kernel, by decide +kernel⟩
theorem ok_chkPart {f : Addr} {fd : FuncData} (F : Fun K "_check_part" "_check_part" sChkPart f fd) (I : RI P w K mg base) : FnOk P w K mg base CX0 3 f fd ["name", "value"] (spChkPart K) := by
  obtain ⟨fN, fdN, GN, gN, bN, kN⟩ := I.isNum
  refine F.ok scChkPart (fun vs H Q E h => ?_) (fun cdv A outer s H vs Q E hr h => ?_)
  · obtain ⟨n, x, q, rfl, _⟩ := h
    rfl
  · obtain ⟨n, x, q, rfl, hx, k⟩ := h
    refine ⟨_, pss_one (ps_if (pt_not (pt_val (pe_call GN hr rfl gN kN bN .nil pass0 (pa_cons (pv 1) pa_nil)))) (pss_one ps_never) pss_nil), ?_⟩
    exact ⟨_, rfl, x, q, rfl, hx, true, rfl, iteF k⟩
end
end K18
set_option maxHeartbeats 4000000
namespace K18
open PySem PySem.Spec PyProof.Rows L2 GL
/-- what Move calls -/
structure RM (P : Program) (w : World) (K : PySem.W.Frag) (mg : Str → Option Value) (base : Heap) : Prop where
  L : RL P w K mg base
  T : MF K mg
  chkD : ∃ f fd, FnOk P w K mg base CX0 2 f fd ["value"] spChkDiv ∧ mg "_check_divisor" = some (.ref f) ∧ Binds K fd ["value"] [] ∧ PySem.W.keepIn K (.ref f) = true
  chkP : ∃ f fd, FnOk P w K mg base CX0 3 f fd ["name", "value"] (spChkPart K) ∧ mg "_check_part" = some (.ref f) ∧ Binds K fd ["name", "value"] [] ∧ PySem.W.keepIn K (.ref f) = true
section
variable {P : Program} {w : World} {K : PySem.W.Frag} {mg : Str → Option Value} {base : Heap}
/-! ### Move.__init__ -/
def spMInit (K : PySem.W.Frag) : Sp := fun vs H Q _ => ∃ (s dx : Addr) (d : Int) (x y z : V) (u q r : Rat), vs = [.ref s, .int d, x, y, z] ∧ H s = some (.ins (aM K) dx []) ∧ 1 ≤ d ∧ NumAt K H x u ∧ NumAt K H y q ∧ NumAt K H z r ∧ Sz 100000 q ∧ Sz 100000 r ∧ rBelow r q = false ∧
  ∀ H', Kp s H H' → MovAt K H' s d u q r → Q .non H'
theorem scMInit : FnScope ["self", "divisor", "plus", "low", "high"] ["self", "divisor", "plus", "low", "high"] (defScope (sMove 0)) := ⟨rfl, rfl, rfl, by decide +kernel, rfl, by decide +kernel, by decide +kernel⟩
theorem ok_mInit {f : Addr} {fd : FuncData} (F : FunD K "__init__" "Move.__init__" (defArgs (sMove 0)) (defBody (sMove 0)) (defScope (sMove 0)) [] [] f fd) (M : RM P w K mg base) : FnOk P w K mg base CX0 6 f fd ["self", "divisor", "plus", "low", "high"] (spMInit K) := by
  obtain ⟨mc, pp, fo, cr, cm, GO⟩ := M.L.C.J.I.R.of
  obtain ⟨fB, fdB, mB, GB, bB⟩ := M.L.C.J.I.below
  obtain ⟨fD, fdD, GD, gD, bD, kD⟩ := M.chkD
  obtain ⟨fC, fdC, GC, gC, bC, kC⟩ := M.chkP
  have TR := M.L.C.J.I.R.G.T
  have T := M.T
  refine F.ok scMInit (fun vs H Q E h => ?_) (fun cdv A outer s H vs Q E hr h => ?_)
  · obtain ⟨s, dx, d, x, y, z, u, q, r, rfl, _⟩ := h
    rfl
  · obtain ⟨s, dx, d, x, y, z, u, q, r, rfl, es, d1, hx, hy, hz, sq, sr, le, k⟩ := h
    refine ⟨_, pss_cons (ps_expr (pe_call GD (hr.mono (by decide)) rfl gD kD bD .nil pass0 (pa_cons (pv 1) pa_nil)))
      (pss_cons (ps_expr (pe_call GC (hr.mono (by decide)) rfl gC kC bC .nil pass0 (pa_cons pe_str (pa_cons (pv 2) pa_nil))))
      (pss_cons (ps_expr (pe_call GC (hr.mono (by decide)) rfl gC kC bC .nil pass0 (pa_cons pe_str (pa_cons (pv 3) pa_nil))))
      (pss_cons (ps_expr (pe_call GC (hr.mono (by decide)) rfl gC kC bC .nil pass0 (pa_cons pe_str (pa_cons (pv 4) pa_nil))))
      (pss_cons (ps_fld (pv 0) (pv 1) rfl)
      (pss_cons (ps_fld (pv 0) (ClX.pe_cmeth (pe_glob (v := .ref (aR K)) rfl TR.gR rfl) cr cm GO (hr.mono (by decide)) pass0 (pa_cons (pv 2) pa_nil)) rfl)
      (pss_cons (ps_fld (pv 0) (ClX.pe_cmeth (pe_glob (v := .ref (aR K)) rfl TR.gR rfl) cr cm GO (hr.mono (by decide)) pass0 (pa_cons (pv 3) pa_nil)) rfl)
      (pss_cons (ps_fld (pv 0) (ClX.pe_cmeth (pe_glob (v := .ref (aR K)) rfl TR.gR rfl) cr cm GO (hr.mono (by decide)) pass0 (pa_cons (pv 4) pa_nil)) rfl)
      (pss_one (ps_if (pt_val (pe_meth (pe_fld (pv 0) rfl) TR.cl mB GB hr bB .nil pass0 (pa_cons (pe_fld (pv 0) rfl) pa_nil))) (pss_one ps_never) pss_nil))))))))), ?_⟩
    refine ⟨_, rfl, d, rfl, d1, ?_⟩
    refine ⟨_, rfl, _, x, u, rfl, hx, ?_⟩
    refine ⟨_, rfl, _, y, q, rfl, hy, ?_⟩
    refine ⟨_, rfl, _, z, r, rfl, hz, ?_⟩
    refine ⟨_, rfl, _, rfl, s, _, dx, _, rfl, es, T.cl, T.nD, (by decide), ?_⟩
    have k0 : Kp s H (upd H s (.ins (aM K) dx [("_divisor", .int d)])) := Kp.put fun c o _ e => e
    refine ⟨rfl, _, rfl, x, u, rfl, hx.kp es rfl k0, fun a H1 k1 ha => ?_⟩
    have e1 := k1 _ _ upd_same
    refine ⟨_, rfl, s, _, dx, _, rfl, e1, T.cl, T.nP, (by show 1 < 1000; decide), ?_⟩
    have na := notRat e1 rfl ha
    have kA : Kp s H1 (upd H1 s (.ins (aM K) dx [("_divisor", .int d), ("_plus", .ref a)])) := Kp.put fun c o _ e => e
    have k01 := (k0.same k1).put (o := .ins (aM K) dx [("_divisor", .int d), ("_plus", .ref a)])
    have ha1 := ha.kp na kA
    refine ⟨rfl, _, rfl, y, q, rfl, hy.kp es rfl k01, fun b H2 k2 hb => ?_⟩
    have e2 := k2 _ _ upd_same
    refine ⟨_, rfl, s, _, dx, _, rfl, e2, T.cl, T.nL, (by show 2 < 1000; decide), ?_⟩
    have nb := notRat e2 rfl hb
    have kB : Kp s H2 (upd H2 s (.ins (aM K) dx [("_divisor", .int d), ("_plus", .ref a), ("_low", .ref b)])) := Kp.put fun c o _ e => e
    have k02 := (k01.same k2).put (o := .ins (aM K) dx [("_divisor", .int d), ("_plus", .ref a), ("_low", .ref b)])
    have ha2 := (ha1.same k2).kp na kB
    have hb2 := hb.kp nb kB
    refine ⟨rfl, _, rfl, z, r, rfl, hz.kp es rfl k02, fun c H3 k3 hc => ?_⟩
    have e3 := k3 _ _ upd_same
    refine ⟨_, rfl, s, _, dx, _, rfl, e3, T.cl, T.nH, (by show 3 < 1000; decide), ?_⟩
    have nc := notRat e3 rfl hc
    have kC3 : Kp s H3 (upd H3 s (.ins (aM K) dx [("_divisor", .int d), ("_plus", .ref a), ("_low", .ref b), ("_high", .ref c)])) := Kp.put fun c o _ e => e
    have k03 := (k02.same k3).put (o := .ins (aM K) dx [("_divisor", .int d), ("_plus", .ref a), ("_low", .ref b), ("_high", .ref c)])
    have ha3 := (ha2.same k3).kp na kC3
    have hb3 := (hb2.same k3).kp nb kC3
    have hc3 := hc.kp nc kC3
    obtain ⟨db, eb⟩ := hb3
    obtain ⟨dc, ec⟩ := hc3
    refine ⟨_, rfl, s, _, dx, _, _, rfl, upd_same, T.cl, T.nH, rfl, c, dc, _, rfl, ec, rfl, _, rfl, s, _, dx, _, _, rfl, upd_same, T.cl, T.nL, rfl, c, .ref b, r, q, rfl, ⟨dc, ec⟩, .inr ⟨b, rfl, db, eb⟩, sr, sq, fun H4 k4 => ⟨_, rfl, ?_⟩⟩
    rw [le]
    exact iteF (k H4 (k03.same k4) ⟨d1, le, dx, a, b, c, k4 _ _ upd_same, ha3.same k4, RatAt.same ⟨db, eb⟩ k4, RatAt.same ⟨dc, ec⟩ k4⟩)
end
end K18
set_option maxHeartbeats 4000000
namespace K18
open PySem PySem.Spec PyProof.Rows L2 GL
/-- a property of a class: its record, its def's promise -/
def PropX (P : Program) (w : World) (K : PySem.W.Frag) (mg : Str → Option Value) (base : Heap) (C : Addr) (f : Str) (sp : Sp) : Prop := ∃ p g fd, PropOf K C f p g ∧ FnOk P w K mg base CX0 1 g fd ["self"] sp ∧ Binds K fd ["self"] []
/-- a method -/
def MetX (P : Program) (w : World) (K : PySem.W.Frag) (mg : Str → Option Value) (base : Heap) (C : Addr) (m : Str) (k : Nat) (ps : List Str) (sp : Sp) : Prop := ∃ f fd, Meth K C m f ∧ FnOk P w K mg base CX0 k f fd ps sp ∧ Binds K fd ps []
/-- a def of the module -/
def DefF (P : Program) (w : World) (K : PySem.W.Frag) (mg : Str → Option Value) (base : Heap) (x : Str) (k : Nat) (ps : List Str) (sp : Sp) : Prop := ∃ f fd, FnOk P w K mg base CX0 k f fd ps sp ∧ mg x = some (.ref f) ∧ Binds K fd ps [] ∧ PySem.W.keepIn K (.ref f) = true
/-- two Ratios by Ratio.__eq__ -/
def RatB (K : PySem.W.Frag) : DB := fun x y b H => ∃ a c q r, x = .ref a ∧ y = .ref c ∧ RatAt K H a q ∧ RatAt K H c r ∧ b = decide (q = r)
theorem ratAt_inj {K : PySem.W.Frag} {H : Hp} {a : Addr} {q r : Rat} (h : RatAt K H a q) (k : RatAt K H a r) : q = r := by
  obtain ⟨d, e⟩ := h
  obtain ⟨d2, e2⟩ := k
  rw [e] at e2
  have z := ins_fs e2
  injection z with z1 z2
  injection z1 with _ z1
  injection z1 with z1
  injection z2 with z2 _
  injection z2 with _ z2
  injection z2 with z2
  exact Rat.ext z1 (by omega)
/-- flat things and Ratios -/
def ThB (K : PySem.W.Frag) : DB := fun x y b H => FlatB x y b H ∨ RatB K x y b H
theorem monB_rat {K : PySem.W.Frag} : MonB (RatB K) := by
  intro x y b H H' k d
  obtain ⟨a, c, q, r, e1, e2, ha, hc, e⟩ := d
  exact ⟨a, c, q, r, e1, e2, ha.same k, hc.same k, e⟩
theorem monB_th {K : PySem.W.Frag} : MonB (ThB K) := monB_flat.or monB_rat
theorem eqB_rat {X : Cx} {f : Addr} (B : GL.OwnEq X.K (aR X.K) f) (F : FnR X.prog X.w X.K X.mg X.base CX0 1 f (spREq X.K)) : EqB X 1 (RatB X.K) := by
  have z := eqB_ins (E := fun _ _ _ => False) B F (X := X) (pass0 (X := X))
  intro A pins s σ H x y u v b sb I rx ry d
  refine z A pins s σ H x y u v b sb I rx ry ?_
  obtain ⟨a, c, q, r, rfl, rfl, ha, hc, rfl⟩ := d
  obtain ⟨da, ea⟩ := id ha
  obtain ⟨dc, ec⟩ := id hc
  refine ⟨a, c, da, dc, _, _, rfl, rfl, ea, ec, ?_, a, .ref c, q, rfl, ha, .inl ⟨c, r, rfl, hc, rfl, fun _ _ e => e⟩⟩
  rintro rfl
  exact decide_eq_true (ratAt_inj ha hc)
theorem eqB_th {X : Cx} {f : Addr} (B : GL.OwnEq X.K (aR X.K) f) (F : FnR X.prog X.w X.K X.mg X.base CX0 1 f (spREq X.K)) : EqB X 1 (ThB X.K) := (eqB_flat.mono (by decide)).or (eqB_rat B F)
section
variable {P : Program} {w : World} {K : PySem.W.Frag} {mg : Str → Option Value} {base : Heap}
/-! ### form -/
end
end K18
set_option maxHeartbeats 4000000
namespace K18
open PySem PySem.Spec PyProof.Rows L2 GL
abbrev sIsList : Stmt := tp 15
abbrev sIsName : Stmt := tp 16
abbrev sIsWord : Stmt := tp 17
abbrev sHasNames : Stmt := tp 18
abbrev sIsOneOf : Stmt := tp 19
def lettersS : Str := "abcdefghijklmnopqrstuvwxyz"
/-- what of the module's names the checks of names need -/
structure NF (K : PySem.W.Frag) (mg : Str → Option Value) : Prop where
  isi : mg "isinstance" = none
  str : mg "str" = none
  list : mg "list" = none
  tuple : mg "tuple" = none
  dict : mg "dict" = none
  len : mg "len" = none
  all : mg "all" = none
  let_ : ∃ u, mg "LETTERS" = some u ∧ RelV (.str lettersS) u
  lng : ∃ u, mg "LONGEST_WORD" = some u ∧ RelV (.int 8) u
/-- every letter of it within LETTERS -/
def lettersB (s : Str) : List Bool := s.cps.toList.map fun c => !(Builtin.Str.occurrences lettersS ⟨#[c]⟩ 0 lettersS.length 1).isEmpty
def wordB (s : Str) : Bool := decide ((1 : Int) ≤ s.length) && (decide ((s.length : Int) ≤ 8) && (lettersB s).all id)
def nameB (s : Str) : Bool := decide (((Txt.split s ".").length : Int) ≤ 2) && (Txt.split s ".").all wordB
section
variable {P : Program} {w : World} {K : PySem.W.Frag} {mg : Str → Option Value} {base : Heap}
def spWord : Sp := fun vs H Q _ => ∃ s : Str, vs = [.str s] ∧ s.length ≤ 1000 ∧ ∀ H', Same H H' → Q (.bl (wordB s)) H'
theorem scWord : FnScope ["text", "letter"] ["text"] (defScope sIsWord) := ⟨rfl, rfl, rfl, by decide +kernel, rfl, by decide +kernel, by decide +kernel⟩
theorem ok_word {f : Addr} {fd : FuncData} (F : Fun K "_is_word" "_is_word" sIsWord f fd) (Z : NF K mg) : FnOk P w K mg base CX0 1 f fd ["text"] spWord := by
  obtain ⟨uL, gL, rL⟩ := Z.let_
  obtain ⟨uW, gW, rW⟩ := Z.lng
  refine F.ok scWord (fun vs H Q E h => ?_) (fun cdv A outer s H vs Q E hr h => ?_)
  · obtain ⟨s, rfl, _⟩ := h
    rfl
  · obtain ⟨x, rfl, len, k⟩ := h
    refine ⟨_, pss_one (ps_ret (pe_and (pe_chain op_le op_le pe_int (pe_callB call_len_str (by rfl) Z.len PySem.boot_len (pa_cons (pv 0) pa_nil)) (pe_glob rfl gW rW))
      (pe_one (pe_callB (cr_all rfl) (by rfl) Z.all (by decide +kernel) (pa_cons (pe_lc (own := [("letter", 1)]) (g := gName 1) (tt := tYes) rfl scWord.nd (pi_str (pv 0))
        (blkOk_by (own := [("letter", 1)]) (N := ["text", "letter"]) (sc := defScope sIsWord) (by decide +kernel)) (fun _ _ _ _ _ => pg_name (i := 1) scWord.nd rfl (Or.inl rfl)) (fun _ _ _ _ _ => pts_nil)
        (fun _ _ _ _ _ => by exact (pe_cmpR op_in_str (pv 1) (pe_glob rfl gL rL) (by with_unfolding_all rfl)))) pa_nil))))), ?_⟩
    have l8 : x.length ≤ sizeLine := Nat.le_trans len (by decide)
    unfold wordB at k
    refine ⟨_, rfl, x, rfl, l8, _, _, rfl, rfl, _, rfl, ?_⟩
    refine ite2 (fun c => ?_) (fun c => ?_)
    · rw [c, Bool.true_and] at k
      refine ⟨_, _, rfl, rfl, _, rfl, ?_⟩
      refine ite2 (fun c2 => ?_) (fun c2 => ?_)
      · rw [c2, Bool.true_and] at k
        refine ⟨_, rfl, x, rfl, fun D hD => ?_⟩
        have up := same_new (o := .lst []) hD
        have sz : (lettersB x).length = x.cps.size := by simp [lettersB]
        refine lc_it walk_str (fun i G => Same H G ∧ G D = some (.lst (((lettersB x).take i).map V.bl))) ⟨up, upd_same⟩ (fun _ _ _ _ => trivial) ?_ ?_
        · rintro i y G G' hi ⟨sG, hG⟩ ⟨rfl, c, hc, rfl⟩
          refine ⟨rfl, _, rfl, _, _, rfl, rfl, _, hG, ?_, ?_, ?_⟩
          · rw [List.length_map, List.length_take, sizeLine_eq]
            have z : x.cps.size ≤ 1000 := len
            omega
          · intro b o e
            rw [upd_ne (ne_of_none e hD)]
            exact sG b o e
          · have e : (lettersB x)[i]? = some (!(Builtin.Str.occurrences lettersS ⟨#[c]⟩ 0 lettersS.length 1).isEmpty) := by
              unfold lettersB
              rw [List.getElem?_map, Array.getElem?_toList, hc]
              rfl
            rw [upd_same, List.take_add_one, e, List.map_append]
            rfl
        · rintro G ⟨sG, hG⟩
          rw [← sz, List.take_length] at hG
          refine ⟨D, lettersB x, rfl, SqL.of hG, ?_⟩
          exact k G sG
      · rw [Bool.eq_false_iff.mpr c2, Bool.false_and] at k
        exact k H fun _ _ e => e
    · rw [Bool.eq_false_iff.mpr c, Bool.false_and] at k
      exact ⟨_, rfl, iteF (k H fun _ _ e => e)⟩
/-! ### is_name -/
/-- what is_name is asked -/
def IsNm (K : PySem.W.Frag) (H : Hp) (x : V) (b : Bool) : Prop := (∃ s : Str, x = .str s ∧ s.length ≤ 100 ∧ (∀ u ∈ Txt.split s ".", u.length ≤ 1000) ∧ b = nameB s) ∨ (b = false ∧ ∃ t, TyX K H x t ∧ PySem.W.kitOne K t (.type "str") = some false)
def spName (K : PySem.W.Frag) : Sp := fun vs H Q _ => ∃ x b, vs = [x] ∧ IsNm K H x b ∧ ∀ H', Same H H' → Q (.bl b) H'
abbrev nName : List Str := ["value", "words", "word"]
theorem scName : FnScope nName ["value"] (defScope sIsName) := ⟨rfl, rfl, rfl, by decide +kernel, rfl, by decide +kernel, by decide +kernel⟩
theorem ok_name {f : Addr} {fd : FuncData} (F : Fun K "is_name" "is_name" sIsName f fd) (Z : NF K mg) (wd : DefF P w K mg base "_is_word" 1 ["text"] spWord) : FnOk P w K mg base CX0 2 f fd ["value"] (spName K) := by
  obtain ⟨fW, fdW, GW, gW, bW, kW⟩ := wd
  refine F.ok scName (fun vs H Q E h => ?_) (fun cdv A outer s H vs Q E hr h => ?_)
  · obtain ⟨x, b, rfl, _⟩ := h
    rfl
  · obtain ⟨x, b, rfl, nm, k⟩ := h
    refine ⟨_, pss_cons (ps_if (pt_not (pt_val (pe_callB call_isi (by rfl) Z.isi (by decide +kernel) (pa_cons (pv 0) (pa_cons (pe_bltn (v := .ty "str") (by rfl) Z.str (by decide +kernel) rfl) pa_nil))))) (pss_one (ps_ret pe_bl)) pss_nil)
      (pss_cons (ps_set (i := 1) scName.nd rfl (Or.inl rfl) (pe_bm PySem.F.plainAttrs_str PySem.F.slot_str_split PySem.F.type_str_split mt_split (pv 0) (pa_cons pe_str pa_nil)))
      (pss_one (ps_ret (pe_and (pe_cmpR op_le (pe_callB call_len_seq (by rfl) Z.len PySem.boot_len (pa_cons (pv 1) pa_nil)) pe_int (nomark _))
        (pe_one (pe_callB (cr_all rfl) (by rfl) Z.all (by decide +kernel) (pa_cons (pe_lc (own := [("word", 2)]) (g := gName 2) (tt := tYes) (te := tCall spWord [] E0 (tCons (tVar 2) tNil)) rfl scName.nd (pi_list (pv 1))
          (blkOk_by (own := [("word", 2)]) (N := nName) (sc := defScope sIsName) (by decide +kernel)) (fun _ _ _ _ _ => pg_name (i := 2) scName.nd rfl (Or.inl rfl)) (fun _ _ _ _ _ => pts_nil)
          (fun _ _ _ _ _ => by exact (pe_call GW hr rfl gW kW bW .nil pass0 (pa_cons (pv 2) pa_nil)))) pa_nil))))))), ?_⟩
    rcases nm with ⟨z, rfl, len, ws, rfl⟩ | ⟨rfl, t, ty, no⟩
    · refine ⟨_, rfl, .str z, .ty "str", .type "str", _, true, rfl, .ty _, .base (.str z), kit_ty (by decide +kernel), true, rfl, iteF ?_⟩
      have hl : (Txt.split z ".").length ≤ 102 := Nat.le_trans (PyProof.Rows.split_le z ".") (by omega)
      refine ⟨_, rfl, rfl, z, ".", rfl, rfl, by decide +kernel, by rw [sizeLine_eq]; omega, fun l nl => ?_⟩
      have u1 := same_new (o := .lst ((Txt.split z ".").map V.str)) nl
      have hL : upd H l (.lst ((Txt.split z ".").map V.str)) l = some (.lst ((Txt.split z ".").map V.str)) := upd_same
      generalize upd H l (.lst ((Txt.split z ".").map V.str)) = H1 at *
      unfold nameB at k
      refine ⟨_, rfl, _, _, rfl, .inl (SqL.of hL), _, _, rfl, rfl, ?_⟩
      rw [List.length_map]
      refine ⟨_, rfl, ?_⟩
      refine ite2 (fun c => ?_) (fun c => ?_)
      · rw [c, Bool.true_and] at k
        refine ⟨_, rfl, l, rfl, ⟨_, SqL.of hL⟩, fun D hD => ?_⟩
        have u2 := same_new (o := .lst []) hD
        refine lc_list (K := K) (a := l) (xs := (Txt.split z ".").map V.str) (fun i G => Same H1 G ∧ G D = some (.lst ((((Txt.split z ".").map wordB).take i).map V.bl))) ⟨u2, upd_same⟩ (fun i G _ ⟨s, _⟩ => SqL.of (s _ _ hL)) ?_ ?_
        · rintro i y G hi ⟨sG, hG⟩
          rw [List.getElem?_map] at hi
          obtain ⟨u, hu, rfl⟩ := Option.map_eq_some_iff.mp hi
          have il : i < (Txt.split z ".").length := (List.getElem?_eq_some_iff.mp hu).1
          refine ⟨rfl, _, rfl, u, rfl, ws u (List.mem_of_getElem? hu), fun G' s' => ⟨_, s' _ _ hG, ?_, ?_, ?_⟩⟩
          · rw [List.length_map, List.length_take, List.length_map, sizeLine_eq]
            omega
          · intro b o e
            have e2 := s' _ _ (sG _ _ e)
            rw [upd_ne (ne_of_none e hD)]
            exact e2
          · rw [upd_same, List.take_add_one, List.getElem?_map, hu, List.map_append]
            rfl
        · rintro G ⟨sG, hG⟩
          rw [List.length_map, ← List.length_map (f := wordB), List.take_length] at hG
          refine ⟨D, (Txt.split z ".").map wordB, rfl, SqL.of hG, ?_⟩
          rw [List.all_map]
          exact k G (u1.trans sG)
      · rw [Bool.eq_false_iff.mpr c, Bool.false_and] at k
        exact k _ u1
    · exact ⟨_, rfl, x, .ty "str", t, _, false, rfl, .ty _, ty, no, false, rfl, iteT (k H fun _ _ e => e)⟩
end
end K18
set_option maxHeartbeats 4000000
namespace K18
open PySem PySem.Spec PyProof.Rows L2 GL
section
variable {P : Program} {w : World} {K : PySem.W.Frag} {mg : Str → Option Value} {base : Heap}
/-! ### is_list -/
def spIsList (K : PySem.W.Frag) : Sp := fun vs H Q _ => ∃ x t b, vs = [x] ∧ TyX K H x t ∧ PySem.W.kitAny K t [.type "list", .type "tuple"] = some b ∧ ∀ H', Same H H' → Q (.bl b) H'
theorem scIsList : FnScope ["value"] ["value"] (defScope sIsList) := ⟨rfl, rfl, rfl, by decide +kernel, rfl, by decide +kernel, by decide +kernel⟩
theorem TyX.same' {H H' : Hp} {x : V} {t : Value} (h : TyX K H x t) (k : Same H H') : TyX K H' x t := by
  cases h with
  | base h =>
    refine .base ?_
    cases h with
    | non => exact .non
    | bl x => exact .bl x
    | int i => exact .int i
    | str x => exact .str x
    | flt x => exact .flt x
    | lst e => exact .lst (k _ _ e)
    | frz e => exact .frz (k _ _ e)
    | tup e => exact .tup (k _ _ e)
    | dK e => exact .dK (k _ _ e)
    | dT e => exact .dT (k _ _ e)
    | ins e cl ha hn htk hm => exact .ins (k _ _ e) cl ha hn htk hm
  | byt b => exact .byt b
  | set e => exact .set (k _ _ e)
  | kList e c => exact .kList e c
  | kTuple e c => exact .kTuple e c
  | kDict e c => exact .kDict e c
  | fTuple e => exact .fTuple (k _ _ e)
  | fDict e => exact .fDict (k _ _ e)
theorem ok_isList {f : Addr} {fd : FuncData} (F : Fun K "is_list" "is_list" sIsList f fd) (Z : NF K mg) : FnOk P w K mg base CX0 1 f fd ["value"] (spIsList K) := by
  refine F.ok scIsList (fun vs H Q E h => ?_) (fun cdv A outer s H vs Q E hr h => ?_)
  · obtain ⟨x, t, b, rfl, _⟩ := h
    rfl
  · obtain ⟨x, t, b, rfl, ty, e, k⟩ := h
    refine ⟨_, pss_one (ps_ret (pe_callB call_isiT (by rfl) Z.isi (by decide +kernel) (pa_cons (pv 0) (pa_cons (pe_tup (pa_cons (pe_bltn (v := .ty "list") (by rfl) Z.list (by decide +kernel) rfl) (pa_cons (pe_bltn (v := .ty "tuple") (by rfl) Z.tuple (by decide +kernel) rfl) pa_nil))) pa_nil)))), ?_⟩
    refine ⟨_, rfl, (by show 2 ≤ sizeLine; decide), fun p np => ?_⟩
    have u1 := same_new (o := .tup [V.ty "list", .ty "tuple"]) np
    exact ⟨x, p, _, t, _, b, rfl, upd_same, .cons (.ty _) (.cons (.ty _) .nil), TyX.same' ty u1, e, k _ u1⟩
/-! ### is_one_of -/
/-- a text of the list, or none -/
def spOneOf (K : PySem.W.Frag) : Sp := fun vs H Q _ => ∃ (x : V) (a : Addr) (zs : List Str), vs = [x, .ref a] ∧ SqT K H a (zs.map V.str) ∧ ((∃ s : Str, x = .str s ∧ Q (.bl (inV (.str s) (zs.map V.str))) H) ∨ ∃ t, TyX K H x t ∧ PySem.W.kitOne K t (.type "str") = some false ∧ Q (.bl false) H)
theorem scOneOf : FnScope ["value", "names"] ["value", "names"] (defScope sIsOneOf) := ⟨rfl, rfl, rfl, by decide +kernel, rfl, by decide +kernel, by decide +kernel⟩
theorem ok_oneOf {f : Addr} {fd : FuncData} (F : Fun K "is_one_of" "is_one_of" sIsOneOf f fd) (Z : NF K mg) : FnOk P w K mg base CX0 1 f fd ["value", "names"] (spOneOf K) := by
  refine F.ok scOneOf (fun vs H Q E h => ?_) (fun cdv A outer s H vs Q E hr h => ?_)
  · obtain ⟨x, a, zs, rfl, _⟩ := h
    rfl
  · obtain ⟨x, a, zs, rfl, ha, h⟩ := h
    refine ⟨_, pss_one (ps_ret (pe_and (pe_callB call_isi (by rfl) Z.isi (by decide +kernel) (pa_cons (pv 0) (pa_cons (pe_bltn (v := .ty "str") (by rfl) Z.str (by decide +kernel) rfl) pa_nil)))
      (pe_one (pe_cmpR op_in_seq (pv 0) (pv 1) (by with_unfolding_all rfl))))), ?_⟩
    rcases h with ⟨z, rfl, k⟩ | ⟨t, ty, no, k⟩
    · refine ⟨_, rfl, .str z, .ty "str", .type "str", _, true, rfl, .ty _, .base (.str z), kit_ty (by decide +kernel), true, rfl, iteT ?_⟩
      exact ⟨_, rfl, _, rfl, a, _, rfl, .inr ha, rfl, by simp [flatV], k⟩
    · exact ⟨_, rfl, x, .ty "str", t, _, false, rfl, .ty _, ty, no, false, rfl, iteF k⟩
/-! ### has_names -/
def keyNm : Key → Bool
  | .inl _ => false
  | .inr s => nameB s
def KeyOk : Key → Prop
  | .inl _ => True
  | .inr s => s.length ≤ 100 ∧ ∀ u ∈ Txt.split s ".", u.length ≤ 1000
theorem isNm_key {H : Hp} {k : Key} (h : KeyOk k) : IsNm K H (kV k) (keyNm k) := by
  cases k with
  | inl i => exact .inr ⟨rfl, _, .base (.int i), kit_ty (by decide +kernel)⟩
  | inr s => exact .inl ⟨s, rfl, h.1, h.2, rfl⟩
/-- a dict, or none -/
def spHasNames (K : PySem.W.Frag) : Sp := fun vs H Q _ => ∃ x b, vs = [x] ∧ ((∃ (d : Addr) (kvs : List (Key × V)), x = .ref d ∧ H d = some (.dK kvs) ∧ kvs.length ≤ 1000 ∧ (∀ kv ∈ kvs, KeyOk kv.1) ∧ b = kvs.all fun kv => keyNm kv.1) ∨
  (∃ (d : Addr) (kvs : List (List Key × V)), x = .ref d ∧ H d = some (.dT kvs) ∧ kvs.length ≤ 1000 ∧ kvs ≠ [] ∧ b = false) ∨
  (∃ t, TyX K H x t ∧ PySem.W.kitOne K t (.type "dict") = some false ∧ b = false)) ∧ ∀ H', Same H H' → Q (.bl b) H'
theorem scHasNames : FnScope ["value", "key"] ["value"] (defScope sHasNames) := ⟨rfl, rfl, rfl, by decide +kernel, rfl, by decide +kernel, by decide +kernel⟩
theorem ok_hasNames {f : Addr} {fd : FuncData} (F : Fun K "has_names" "has_names" sHasNames f fd) (Z : NF K mg) (nm : DefF P w K mg base "is_name" 2 ["value"] (spName K)) : FnOk P w K mg base CX0 3 f fd ["value"] (spHasNames K) := by
  obtain ⟨fN, fdN, GN, gN, bN, kN⟩ := nm
  refine F.ok scHasNames (fun vs H Q E h => ?_) (fun cdv A outer s H vs Q E hr h => ?_)
  · obtain ⟨x, b, rfl, _⟩ := h
    rfl
  · obtain ⟨x, b, rfl, h, k⟩ := h
    refine ⟨_, pss_one (ps_ret (pe_and (pe_callB call_isi (by rfl) Z.isi (by decide +kernel) (pa_cons (pv 0) (pa_cons (pe_bltn (v := .ty "dict") (by rfl) Z.dict (by decide +kernel) rfl) pa_nil)))
      (pe_one (pe_lock (pe_callB (cr_all rfl) (by rfl) Z.all (by decide +kernel) (pa_cons (pe_lc (own := [("key", 1)]) (g := gName 1) (tt := tYes) (te := tCall (spName K) [] E0 (tCons (tVar 1) tNil)) rfl scHasNames.nd (pi_keys (pv 0))
        (blkOk_by (own := [("key", 1)]) (N := ["value", "key"]) (sc := defScope sHasNames) (by decide +kernel)) (fun _ _ _ _ _ => pg_name (i := 1) scHasNames.nd rfl (Or.inl rfl)) (fun _ _ _ _ _ => pts_nil)
        (fun _ _ _ _ _ => by exact (pe_call GN hr rfl gN kN bN .nil pass0 (pa_cons (pv 1) pa_nil)))) pa_nil)))))), ?_⟩
    rcases h with ⟨d, kvs, rfl, hd, len, ks, rfl⟩ | ⟨d, kvs, rfl, hd, len, ne, rfl⟩ | ⟨t, ty, no, rfl⟩
    · refine ⟨_, rfl, .ref d, .ty "dict", .type "dict", _, true, rfl, .ty _, .base (.dK hd), kit_ty (by decide +kernel), true, rfl, iteT ?_⟩
      refine ⟨d, _, hd, trivial, fun od => ?_⟩
      refine ⟨_, rfl, d, od, rfl, .inl ⟨kvs, upd_same, fun D hD => ?_⟩⟩
      have Dd : D ≠ d := fun z => by rw [z, upd_same] at hD; cases hD
      have hD0 : H D = none := by rw [upd_ne Dd] at hD; exact hD
      refine lc_it walk_keys (fun i G => (∀ b o, H b = some o → b ≠ d → G b = some o) ∧ G d = some (.frz od (.dK kvs)) ∧ G D = some (.lst (((kvs.map fun kv => keyNm kv.1).take i).map V.bl))) ⟨fun b o e n => ?_, ?_, upd_same⟩ (fun _ _ _ h => h.2.1) ?_ ?_
      · rw [upd_ne (ne_of_none e hD0), upd_ne n]
        exact e
      · rw [upd_ne Dd.symm]
        exact upd_same
      · rintro i y G G' hi ⟨sG, dG, hG⟩ ⟨rfl, key, v, hk, rfl⟩
        refine ⟨rfl, _, rfl, kV key, keyNm key, rfl, isNm_key (ks _ (List.mem_of_getElem? hk)), fun G' s' => ⟨_, s' _ _ hG, ?_, ?_, ?_, ?_⟩⟩
        · rw [List.length_map, List.length_take, List.length_map, sizeLine_eq]
          omega
        · intro b o e n
          rw [upd_ne (ne_of_none e hD0)]
          exact s' _ _ (sG b o e n)
        · rw [upd_ne Dd.symm]
          exact s' _ _ dG
        · rw [upd_same, List.take_add_one, List.getElem?_map, hk, List.map_append]
          rfl
      · rintro G ⟨sG, dG, hG⟩
        rw [← List.length_map (f := fun kv : Key × V => keyNm kv.1), List.take_length] at hG
        refine ⟨D, kvs.map fun kv => keyNm kv.1, rfl, SqL.of hG, dG, ?_⟩
        rw [List.all_map]
        refine k _ fun b o e => ?_
        by_cases n : b = d
        · rw [n] at e ⊢
          rw [hd] at e
          rw [upd_same]
          exact e
        · rw [upd_ne n]
          exact sG b o e n
    · refine ⟨_, rfl, .ref d, .ty "dict", .type "dict", _, true, rfl, .ty _, .base (.dT hd), kit_ty (by decide +kernel), true, rfl, iteT ?_⟩
      refine ⟨d, _, hd, trivial, fun od => ?_⟩
      refine ⟨_, rfl, d, od, rfl, .inr ⟨kvs, upd_same, fun D hD => ?_⟩⟩
      have Dd : D ≠ d := fun z => by rw [z, upd_same] at hD; cases hD
      have hD0 : H D = none := by rw [upd_ne Dd] at hD; exact hD
      refine lc_it walk_keysT (fun i G => (∀ b o, H b = some o → b ≠ d → G b = some o) ∧ G d = some (.frz od (.dT kvs)) ∧ G D = some (.lst ((List.replicate i false).map V.bl))) ⟨fun b o e n => ?_, ?_, upd_same⟩ (fun _ _ _ h => h.2.1) ?_ ?_
      · rw [upd_ne (ne_of_none e hD0), upd_ne n]
        exact e
      · rw [upd_ne Dd.symm]
        exact upd_same
      · rintro i y G G' hi ⟨sG, dG, hG⟩ ⟨rfl, key, v, q, hk, rfl, hq⟩
        refine ⟨rfl, _, rfl, .ref q, false, rfl, .inr ⟨rfl, _, .base (.tup hq), kit_ty (by decide +kernel)⟩, fun G' s' => ⟨_, s' _ _ hG, ?_, ?_, ?_, ?_⟩⟩
        · rw [List.length_map, List.length_replicate, sizeLine_eq]
          omega
        · intro b o e n
          rw [upd_ne (ne_of_none e hD0)]
          exact s' _ _ (sG b o e n)
        · rw [upd_ne Dd.symm]
          exact s' _ _ dG
        · rw [upd_same, List.replicate_succ', List.map_append]
          rfl
      · rintro G ⟨sG, dG, hG⟩
        refine ⟨D, List.replicate kvs.length false, rfl, SqL.of hG, dG, ?_⟩
        have ea : (List.replicate kvs.length false).all id = false := by
          cases kvs with
          | nil => exact absurd rfl ne
          | cons a l => rfl
        rw [ea]
        refine k _ fun b o e => ?_
        by_cases n : b = d
        · rw [n] at e ⊢
          rw [hd] at e
          rw [upd_same]
          exact e
        · rw [upd_ne n]
          exact sG b o e n
    · exact ⟨_, rfl, x, .ty "dict", t, _, false, rfl, .ty _, ty, no, false, rfl, iteF (k H fun _ _ e => e)⟩
end
end K18
set_option maxHeartbeats 4000000
namespace K18
open PySem PySem.Spec PyProof.Rows L2 GL
abbrev sIsCond : Stmt := tp 34
abbrev sChkWhen : Stmt := tp 33
/-! ### what is no number -/
def NotA (K : PySem.W.Frag) (C : Addr) (H : Hp) (x : V) : Prop := ∃ t, TyX K H x t ∧ PySem.W.kitOne K t (.ref C) = some false
def NotI (K : PySem.W.Frag) (H : Hp) (x : V) : Prop := ∃ t b1 b2, TyX K H x t ∧ PySem.W.kitOne K t (.type "int") = some b1 ∧ (b1 = true → PySem.W.kitOne K t (.type "bool") = some b2) ∧ (b1 && !b2) = false
def NotN (K : PySem.W.Frag) (H : Hp) (x : V) : Prop := NotI K H x ∧ NotA K (aR K) H x
theorem NotA.same {K : PySem.W.Frag} {H H' : Hp} {C : Addr} {x : V} (h : NotA K C H x) (k : Same H H') : NotA K C H' x := by
  obtain ⟨t, ty, no⟩ := h
  exact ⟨t, TyX.same' ty k, no⟩
theorem NotN.same {K : PySem.W.Frag} {H H' : Hp} {x : V} (h : NotN K H x) (k : Same H H') : NotN K H' x := by
  obtain ⟨⟨t, c1, c2, ty, r⟩, a⟩ := h
  exact ⟨⟨t, c1, c2, TyX.same' ty k, r⟩, a.same k⟩
theorem IsNm.same {K : PySem.W.Frag} {H H' : Hp} {x : V} {b : Bool} (h : IsNm K H x b) (k : Same H H') : IsNm K H' x b := by
  rcases h with h | ⟨e, t, ty, no⟩
  · exact .inl h
  · exact .inr ⟨e, t, TyX.same' ty k, no⟩
section
variable {P : Program} {w : World} {K : PySem.W.Frag} {mg : Str → Option Value} {base : Heap}
/-- is_number, both answers -/
def NumB (K : PySem.W.Frag) (H : Hp) (x : V) (b : Bool) : Prop := (b = true ∧ ∃ q, NumAt K H x q) ∨ (b = false ∧ NotN K H x)
theorem NumB.same {H H' : Hp} {x : V} {b : Bool} (h : NumB K H x b) (k : Same H H') : NumB K H' x b := by
  rcases h with ⟨e, q, h⟩ | ⟨e, h⟩
  · exact .inl ⟨e, q, h.same k⟩
  · exact .inr ⟨e, h.same k⟩
def spNumB (K : PySem.W.Frag) : Sp := fun vs H Q _ => ∃ (x : V) (b : Bool), vs = [x] ∧ NumB K H x b ∧ Q (.bl b) H
theorem ok_numX {f : Addr} {fd : FuncData} (F : Fun K "is_number" "is_number" sIsNum f fd) (G : RG P w K mg base) : FnOk P w K mg base CX0 2 f fd ["value"] (fun vs H Q _ => ∃ x : V, vs = [x] ∧ NotN K H x ∧ Q (.bl false) H) := by
  obtain ⟨fI, fdI, GI, gI, bI, kI⟩ := G.isInt
  have T := G.T
  refine F.ok scIsNum (fun vs H Q E h => ?_) (fun cdv A outer s H vs Q E hr h => ?_)
  · obtain ⟨x, rfl, _⟩ := h
    rfl
  · obtain ⟨x, rfl, ⟨⟨t, c1, c2, ty, k1, k2, e⟩, ⟨t2, ty2, no⟩⟩, k⟩ := h
    refine ⟨_, pss_one (ps_ret (pe_or (pe_callB call_isi (by rfl) T.isi (by decide +kernel) (pa_cons (pv 0) (pa_cons (pe_glob (v := .ref (aR K)) rfl T.gR rfl) pa_nil)))
      (pe_one (pe_call GI hr rfl gI kI bI .nil pass0 (pa_cons (pv 0) pa_nil))))), ?_⟩
    refine ⟨_, rfl, x, .ref (aR K), t2, _, false, rfl, .own _, ty2, no, false, rfl, iteF ⟨_, rfl, x, t, c1, c2, rfl, ty, k1, k2, ?_⟩⟩
    rw [e]
    exact k
theorem FnOk.or {CX : CXT} {k : Nat} {f : Addr} {fd : FuncData} {ps : List Str} {s1 s2 : Sp} (a : FnOk P w K mg base CX k f fd ps s1) (b : FnOk P w K mg base CX k f fd ps s2) : FnOk P w K mg base CX k f fd ps (fun vs H Q E => s1 vs H Q E ∨ s2 vs H Q E) :=
  ⟨fun vs H Q E h => h.elim (a.len vs H Q E) (b.len vs H Q E), fun A outer s H args us vs Q E hr he hb hv h => h.elim (a.run A outer s H args us vs Q E hr he hb hv) (b.run A outer s H args us vs Q E hr he hb hv)⟩
theorem FnOk.imp' {CX : CXT} {k : Nat} {f : Addr} {fd : FuncData} {ps : List Str} {s1 s2 : Sp} (a : FnOk P w K mg base CX k f fd ps s1) (h : ∀ vs H Q E, s2 vs H Q E → s1 vs H Q E) : FnOk P w K mg base CX k f fd ps s2 :=
  ⟨fun vs H Q E z => a.len vs H Q E (h _ _ _ _ z), fun A outer s H args us vs Q E hr he hb hv z => a.run A outer s H args us vs Q E hr he hb hv (h _ _ _ _ z)⟩
theorem ok_numB {f : Addr} {fd : FuncData} (a : FnOk P w K mg base CX0 2 f fd ["value"] (spIsNum K)) (b : FnOk P w K mg base CX0 2 f fd ["value"] (fun vs H Q _ => ∃ x : V, vs = [x] ∧ NotN K H x ∧ Q (.bl false) H)) : FnOk P w K mg base CX0 2 f fd ["value"] (spNumB K) :=
  FnOk.imp' (FnOk.or a b) fun vs H Q E h => by
    obtain ⟨x, b, rfl, n, k⟩ := h
    rcases n with ⟨rfl, q, n⟩ | ⟨rfl, n⟩
    · exact .inl ⟨x, q, rfl, n, k⟩
    · exact .inr ⟨x, rfl, n, k⟩
/-! ### _is_condition -/
def sidesL : List Str := ["from", "above", "to", "below"]
def sideB (z : Str) : Bool := inV (.str z) (sidesL.map V.str)
/-- one of SIDES, or not -/
def SideB (K : PySem.W.Frag) (H : Hp) (x : V) (b : Bool) : Prop := (∃ z : Str, x = .str z ∧ b = sideB z) ∨ (b = false ∧ ∃ t, TyX K H x t ∧ PySem.W.kitOne K t (.type "str") = some false)
theorem SideB.same {H H' : Hp} {x : V} {b : Bool} (h : SideB K H x b) (k : Same H H') : SideB K H' x b := by
  rcases h with h | ⟨e, t, ty, no⟩
  · exact .inl h
  · exact .inr ⟨e, t, TyX.same' ty k, no⟩
/-- a condition, or not -/
def CondB (K : PySem.W.Frag) (H : Hp) (x : V) (b : Bool) : Prop := (b = false ∧ ∃ t, TyX K H x t ∧ PySem.W.kitOne K t (.type "tuple") = some false) ∨
  (∃ c xs, x = .ref c ∧ H c = some (.tup xs) ∧ ((b = false ∧ xs.length ≠ 3 ∧ xs.length ≤ 100) ∨ ∃ n s v b1 b2 b3, xs = [n, s, v] ∧ IsNm K H n b1 ∧ SideB K H s b2 ∧ NumB K H v b3 ∧ b = (b1 && (b2 && b3))))
theorem CondB.same {H H' : Hp} {x : V} {b : Bool} (h : CondB K H x b) (k : Same H H') : CondB K H' x b := by
  rcases h with ⟨e, t, ty, no⟩ | ⟨c, xs, e, hc, h⟩
  · exact .inl ⟨e, t, TyX.same' ty k, no⟩
  · refine .inr ⟨c, xs, e, k _ _ hc, ?_⟩
    rcases h with h | ⟨n, s, v, b1, b2, b3, e1, h1, h2, h3, e2⟩
    · exact .inl h
    · exact .inr ⟨n, s, v, b1, b2, b3, e1, h1.same k, h2.same k, h3.same k, e2⟩
def spCond (K : PySem.W.Frag) : Sp := fun vs H Q _ => ∃ x b, vs = [x] ∧ CondB K H x b ∧ ∀ H', Same H H' → Q (.bl b) H'
theorem scCond : FnScope ["value"] ["value"] (defScope sIsCond) := ⟨rfl, rfl, rfl, by decide +kernel, rfl, by decide +kernel, by decide +kernel⟩
structure CF (P : Program) (w : World) (K : PySem.W.Frag) (mg : Str → Option Value) (base : Heap) : Prop where
  N : NF K mg
  nm : DefF P w K mg base "is_name" 2 ["value"] (spName K)
  one : DefF P w K mg base "is_one_of" 1 ["value", "names"] (spOneOf K)
  num : DefF P w K mg base "is_number" 2 ["value"] (spNumB K)
  sides : ∃ a, mg "SIDES" = some (.ref a) ∧ ∀ H, SqT K H a (sidesL.map V.str)
theorem ok_cond {f : Addr} {fd : FuncData} (F : Fun K "_is_condition" "_is_condition" sIsCond f fd) (Y : CF P w K mg base) : FnOk P w K mg base CX0 3 f fd ["value"] (spCond K) := by
  obtain ⟨fN, fdN, GN, gN, bN, kN⟩ := Y.nm
  obtain ⟨fO, fdO, GO, gO, bO, kO⟩ := Y.one
  obtain ⟨fU, fdU, GU, gU, bU, kU⟩ := Y.num
  obtain ⟨aS, gS, hS⟩ := Y.sides
  have Z := Y.N
  refine F.ok scCond (fun vs H Q E h => ?_) (fun cdv A outer s H vs Q E hr h => ?_)
  · obtain ⟨x, b, rfl, _⟩ := h
    rfl
  · obtain ⟨x, b, rfl, cd, k⟩ := h
    refine ⟨_, pss_cons (ps_if (PW.pt (pw_or (pt_not (pt_val (pe_callB call_isi (by rfl) Z.isi (by decide +kernel) (pa_cons (pv 0) (pa_cons (pe_bltn (v := .ty "tuple") (by rfl) Z.tuple (by decide +kernel) rfl) pa_nil)))))
        (pw_or1 (pt_cmpR op_ne (pe_callB call_len_seq (by rfl) Z.len PySem.boot_len (pa_cons (pv 0) pa_nil)) pe_int (nomark _))))) (pss_one (ps_ret pe_bl)) pss_nil)
      (pss_one (ps_ret (pe_and (pe_call GN hr rfl gN kN bN .nil pass0 (pa_cons (pe_ix ix_tup (pv 0) pe_int (fun _ _ => rfl)) pa_nil))
        (pe_and (pe_call GO (hr.mono (by decide)) rfl gO kO bO .nil pass0 (pa_cons (pe_ix ix_tup (pv 0) pe_int (fun _ _ => rfl)) (pa_cons (pe_glob (v := .ref aS) rfl gS rfl) pa_nil)))
          (pe_one (pe_call GU hr rfl gU kU bU .nil pass0 (pa_cons (pe_ix ix_tup (pv 0) pe_int (fun _ _ => rfl)) pa_nil))))))), ?_⟩
    rcases cd with ⟨rfl, t, ty, no⟩ | ⟨c, xs, rfl, hc, cd⟩
    · exact ⟨_, rfl, x, .ty "tuple", t, _, false, rfl, .ty _, ty, no, false, rfl, iteT (iteT (k H fun _ _ e => e))⟩
    · refine ⟨_, rfl, .ref c, .ty "tuple", .type "tuple", _, true, rfl, .ty _, .base (.tup hc), kit_ty (by decide +kernel), true, rfl, iteF ?_⟩
      refine ⟨_, rfl, c, xs, rfl, .inr (SqT.of hc), rfl, _, rfl, ?_⟩
      rcases cd with ⟨rfl, ne, len⟩ | ⟨n, s, v, b1, b2, b3, rfl, h1, h2, h3, rfl⟩
      · have e : (!decide (V.int (xs.length : Int) = V.int 3)) = true := by
          rw [decide_eq_false (fun z => ne (by injection z with z; omega))]
          rfl
        rw [e]
        exact iteT (k H fun _ _ e => e)
      · refine iteF ?_
        refine ⟨_, rfl, c, _, _, _, rfl, rfl, SqT.of hc, rfl, n, b1, rfl, h1, fun H1 s1 => ⟨_, rfl, ?_⟩⟩
        cases b1 with
        | false => exact iteF (k _ s1)
        | true =>
          refine iteT ?_
          have hc1 := s1 _ _ hc
          refine ⟨_, rfl, c, _, _, _, rfl, rfl, SqT.of hc1, rfl, ?_⟩
          rcases h2.same s1 with ⟨z, rfl, rfl⟩ | ⟨rfl, t, ty, no⟩
          · refine ⟨.str z, aS, sidesL, rfl, hS _, .inl ⟨z, rfl, sideB z, rfl, ?_⟩⟩
            cases e : sideB z with
            | false => exact iteF (by rw [e] at k; exact k _ s1)
            | true =>
              rw [e] at k
              exact iteT ⟨_, rfl, c, _, _, _, rfl, rfl, SqT.of hc1, rfl, v, b3, rfl, h3.same s1, k _ s1⟩
          · exact ⟨s, aS, sidesL, rfl, hS _, .inr ⟨t, ty, no, false, rfl, iteF (k _ s1)⟩⟩
end
end K18
set_option maxHeartbeats 4000000
/-! enumerate(t), t a tuple. -/
namespace GL
open PySem PySem.Spec PyProof.Rows L2
theorem meets_en1 {v : Value} {o : Obj} {H : Heap → Prop} (B : Begins v o H) :
    Meets (Builtin.«enumerate.__new__» ⟨[.type "enumerate", v], []⟩) (fun _ R s => H s.heap ∧
      R (.ok (.ret (.ref (s.heap.push o).objs.size))) { s with heap := (s.heap.push o).push { cls := .type "enumerate", data := .fields #[.none, .bool false, .ref s.heap.objs.size, rawInt 0, .none, .none] } }) :=
  .of_wp fun prog w A R s h => by
    obtain ⟨hp, g, d, tk, os⟩ := s; obtain ⟨h1, h⟩ := h
    have hsub := sub_enumerate
    have q1 : ∀ {A' : Around} {E : Value → Shared → Prop} {Q : Value → Shared → Prop}, Q (.ref hp.objs.size) ⟨hp.push o, g, d, tk, os⟩ → wpAny (model prog w) A' (pyIter v) Q E ⟨hp, g, d, tk, os⟩ :=
      fun q => B.iter prog w _ _ ⟨hp, g, d, tk, os⟩ _ h1 q
    wp_walk using q1
    refine wpAny_stack_any fun st => wpAny_pure ?_
    split
    · rename_i c _ _ _ _ _
      cases (c == Value.type "enumerate")
      · wp_walk using q1
        exact ⟨_, rfl, h⟩
      · wp_walk using q1
        exact ⟨_, rfl, h⟩
    · wp_walk using q1
      exact ⟨_, rfl, h⟩
theorem call_en1 {prog : Program} {w : World} {A : Around} {E : Value → Shared → Prop} {s : Shared} {v : Value} {o : Obj} {H : Heap → Prop} {Q : Value → Shared → Prop} (B : Begins v o H) (h1 : H s.heap)
    (h : ∀ h', IsEnum h' (s.heap.objs.size + 1) s.heap.objs.size 0 .none → h'.get? s.heap.objs.size = some o → (∀ b o, s.heap.get? b = some o → h'.get? b = some o) → Q (.ref (s.heap.objs.size + 1)) { s with heap := h' }) :
    wpAny (model prog w) A (call (.type "enumerate") [v]) Q E s := by
  refine callType_new F.called_enumerate (by decide) (F.typeCall_enumerate_1 _) (F.newCall_enumerate_1 _) (fun obj => F.args_object_init_2 obj _) F.entry_enumerate_new
    (meets_en1 B) ⟨h1, ?_⟩
  have hz : (s.heap.push o).objs.size = s.heap.objs.size + 1 := Heap.size_push ..
  show _ ∧ _
  rw [hz]
  have he : IsEnum ((s.heap.push o).push { cls := .type "enumerate", data := .fields #[.none, .bool false, .ref s.heap.objs.size, rawInt 0, .none, .none] }) (s.heap.objs.size + 1) s.heap.objs.size 0 .none := by
    have := Heap.get?_push_size (s.heap.push o) (o := { cls := .type "enumerate", data := .fields #[.none, .bool false, .ref s.heap.objs.size, rawInt 0, .none, .none] }) rfl
    rw [hz] at this; exact this
  exact ⟨⟨_, he, rfl⟩, h _ he (Heap.get?_push_of_some _ (Heap.get?_push_size _ B.free)) fun b o x => Heap.get?_push_of_some _ (Heap.get?_push_of_some _ x)⟩
/-- the tuple at a, each item in a new pair -/
def ItteT (K : PySem.W.Frag) (a : Addr) : It :=
  ⟨fun i H => ∃ (xs : List V) (x : V), SqT K H a xs ∧ xs[i]? = some x, fun i H v H' => ∃ T x, v = .ref T ∧ H T = none ∧ H' = upd H T (.tup [.int (i : Nat), x]) ∧ ∀ xs, SqT K H a xs → xs[i]? = some x, fun i H => ∃ xs : List V, SqT K H a xs ∧ xs.length = i⟩
theorem turn_enumT {P : Program} {w : World} {K : PySem.W.Frag} {elts : List Expr} {kk : Nat} {tpos : Pos} (a e it : Addr) :
    Turn P w K (.Tuple elts kk tpos) (ItteT K a) [e, it] e (fun i h => (∃ old, IsEnum h e it ((i : Nat) : Int) old) ∧ h.IsTupleIter it a i ∧ e ≠ it) where
  mem := by simp
  obj := fun i h st b hb => by
    obtain ⟨⟨old, he⟩, ⟨o, ho, hc, hd⟩, _⟩ := st
    have e' : b = e ∨ b = it := by simpa using hb
    rcases e' with z | z
    · rw [z]; exact ⟨_, he, fun v q => nomatch q⟩
    · rw [z]; exact ⟨o, ho, fun v q => by rw [hd] at q; cases q⟩
  keep := fun i h h' st k => let ⟨⟨old, he⟩, hi, hne⟩ := st; ⟨⟨old, k e (by simp) _ he⟩, hi.at fun o q => k it (by simp) o q, hne⟩
  item := by
    intro X hP hw hK hc i pins s σ H E I hf st hg
    subst hP hw hK
    obtain ⟨⟨old, he⟩, hit, hne⟩ := st
    obtain ⟨xs, x, hq, hx⟩ := hg
    obtain ⟨its, rv, p, hz⟩ := I.tuple hq
    obtain ⟨u, hu, ru⟩ := rv.get hx
    have hel : e < s.heap.objs.size := Heap.lt_size he
    have hil : it < s.heap.objs.size := by obtain ⟨_, q, _⟩ := hit; exact Heap.lt_size q
    have pT : s.heap.IsTuple a its.toArray := p
    have ait : a ≠ it := by
      rintro rfl
      obtain ⟨o1, q1, c1, _⟩ := hit
      obtain ⟨o2, q2, c2, _⟩ := pT
      rw [q1] at q2
      cases q2
      have z : (Value.type "tuple_iterator") = .type "tuple" := c1.symm.trans c2
      injection z with z
      exact absurd z (by decide)
    have ae : a ≠ e := by
      rintro rfl
      obtain ⟨o2, q2, c2, _⟩ := pT
      have he' : s.heap.get? a = some _ := he
      rw [he'] at q2
      cases q2
      have z : (Value.type "enumerate") = .type "tuple" := c2
      injection z with z
      exact absurd z (by decide)
    have ef : e ∉ [it, a] := by
      intro z
      simp only [List.mem_cons, List.not_mem_nil, or_false] at z
      rcases z with z | z
      · exact hne z
      · exact ae z.symm
    have iu : i < its.toArray.size := by
      have := (List.getElem?_eq_some_iff.mp hu).1
      simpa using this
    refine wpAny_pyNext_enum_itemD (Draws.tuple (A := X.A.in1) (I.ok.hd hc) it a ait its.toArray) he ⟨hit, pT⟩ iu hne ef fun x' h' tk hx' ho hst hT hsz hk => ?_
    have ex : x' = u := by
      have q : its.toArray[i]? = some x' := hx'
      rw [show its.toArray[i]? = some u by simpa using hu] at q
      exact (Option.some.inj q).symm
    subst ex
    refine ⟨_, rfl, wpAny_letOwnedTupleGo_enum (s := { s with heap := h', toks := tk + 1 }) ho fun h'' he' sb => ?_⟩
    have hT2 : h''.get? s.heap.objs.size = some { cls := .type "tuple", data := .seq #[.int i tk, x'] } := (sb.2 _ (Nat.ne_of_gt hel)).trans hT
    have new : ObjOk X.prog X.w (upd H s.heap.objs.size (.tup [.int (i : Nat), x])) h'' s.heap.objs.size (.tup [.int (i : Nat), x]) :=
      ⟨by show 2 ≤ sizeLine; decide, [.int i tk, x'], .cons ⟨_, rfl⟩ (.cons ru .nil), ⟨_, hT2, rfl, _, rfl⟩⟩
    have I1 : Inv X pins σ (upd H s.heap.objs.size (.tup [.int (i : Nat), x])) { s with heap := h'', toks := tk + 1 } :=
      I.turnedNew (ch := [e, it]) (fun b ob hb q => (sb.2 b (fun z => hb (by simp [z]))).trans (hk b ob (fun z => hb (by simp [z])) (fun z => hb (by simp [z])) q)) hf (Nat.le_refl _) new
    refine ⟨.ref s.heap.objs.size, _, I1, rfl, ⟨_, x, rfl, I.hok.fresh (Nat.le_refl _), rfl, fun ys hy => by rw [I.tuple_inj hy hq]; exact hx⟩, ⟨⟨x', ?_⟩, hst.1.at fun o q => (sb.2 it (Ne.symm hne)).trans q, hne⟩, fun b hb => ?_⟩
    · have e1 : ((i + 1 : Nat) : Int) = (i : Int) + 1 := by omega
      rw [e1]; exact he'
    · have hb' : b < s.heap.objs.size := by
        have e' : b = e ∨ b = it := by simpa using hb
        rcases e' with z | z
        · rw [z]; exact hel
        · rw [z]; exact hil
      rw [upd_ne (Nat.ne_of_lt hb')]
      exact (hf b hb).1
  done := by
    intro X hP hw hK hc i pins s σ H E I hf st hg
    subst hP hw hK
    obtain ⟨⟨old, he⟩, hit, hne⟩ := st
    obtain ⟨xs, hq, hx⟩ := hg
    obtain ⟨its, rv, p, hz⟩ := I.tuple hq
    obtain ⟨f0, f1, f2, f3, f4, f5⟩ := hf it (by simp)
    have hl := rv.length
    have pT : s.heap.IsTuple a its.toArray := p
    have ait : a ≠ it := by
      rintro rfl
      obtain ⟨o1, q1, c1, _⟩ := hit
      obtain ⟨o2, q2, c2, _⟩ := pT
      rw [q1] at q2
      cases q2
      have z : (Value.type "tuple_iterator") = .type "tuple" := c1.symm.trans c2
      injection z with z
      exact absurd z (by decide)
    have iz : i = its.toArray.size := by
      rw [List.size_toArray, ← hl]
      exact hx.symm
    subst iz
    exact wpAny_pyNext_enum_endD (Draws.tuple (A := X.A.in1) (I.ok.hd hc) it a ait its.toArray) he ⟨hit, pT⟩ fun h' eb => ⟨rfl, I.turned (t' := s.toks) (fun b o hb q => eb b o hb q) f0 f1 f3 f4 f5⟩
  self := fun A i s Q E st h => let ⟨⟨_, he⟩, _⟩ := st; wpAny_pyIter_enum he h
/-- enumerate(e): a list or a tuple -/
def iEnumT (K : PySem.W.Frag) (ta : TA) : TI := fun σ H R => ta σ H fun vs H1 => ∃ a xs, vs = [.ref a] ∧ ((SqL K H1 a xs ∧ R (Ite K a) H1) ∨ (SqT K H1 a xs ∧ R (ItteT K a) H1))
theorem pi_enumT {X : Cx} {e : Expr} {ta : TA} {p pos tpos : Pos} {elts : List Expr} {kk : Nat} (hg : Gl X "enumerate") (hm : X.mg "enumerate" = none) (ha : PA X [e] ta) (hs : starEach [e] X.env = [(false, eval e X.env)] := by rfl) :
    PI X (.Tuple elts kk tpos) (.Call (.Name "enumerate" p) [e] [] pos) (iEnumT X.K ta) := by
  refine ⟨fun pins s σ H R I h => ?_⟩
  refine Call_ (ld_blt I hg hm boot_enumerate (PyProof.Rows.callWith_type1 (thn (ha.run pos pins s σ H _ I h) fun us s1 ⟨vs, H1, I1, r1, q1⟩ => ?_) hs rfl))
  obtain ⟨a, xs, ex, q⟩ := q1
  subst ex
  cases r1 with
  | cons r rr =>
    cases rr
    cases r
    have fin : ∀ b, (b = s1.heap.objs.size + 1 ∨ b = s1.heap.objs.size) → FpOk X pins H1 b := fun b e' => by
      have hle : s1.heap.objs.size ≤ b := by
        rcases e' with z | z
        · rw [z]; exact Nat.le_add_right _ _
        · rw [z]; exact Nat.le_refl _
      exact I1.fpOk hle (I1.hok.fresh hle)
    rcases q with ⟨hq, q⟩ | ⟨hq, q⟩
    · obtain ⟨its, rv, p', hz⟩ := I1.list hq
      refine call_enumerate_list p'.isList fun h' he hit hsz hk => wpAny_pyIter_enum he ?_
      have I2 : Inv X pins σ H1 { s1 with heap := h' } := I1.kept (t' := s1.toks) hk
      exact ⟨s1.heap.objs.size + 1, [s1.heap.objs.size + 1, s1.heap.objs.size], _, _, H1, rfl, I2, turn_enum a (s1.heap.objs.size + 1) s1.heap.objs.size, ⟨⟨.none, he⟩, hit, Nat.succ_ne_self _⟩, fun b hb => fin b (by simpa using hb), q⟩
    · obtain ⟨its, rv, p', hz⟩ := I1.tuple hq
      refine call_en1 (begins_tuple a its.toArray) (show s1.heap.IsTuple a its.toArray from p') fun h' he hit hk => wpAny_pyIter_enum he ?_
      have I2 : Inv X pins σ H1 { s1 with heap := h' } := I1.kept (t' := s1.toks) hk
      exact ⟨s1.heap.objs.size + 1, [s1.heap.objs.size + 1, s1.heap.objs.size], _, _, H1, rfl, I2, turn_enumT a (s1.heap.objs.size + 1) s1.heap.objs.size, ⟨⟨.none, he⟩, ⟨_, hit, rfl, rfl⟩, Nat.succ_ne_self _⟩, fun b hb => fin b (by simpa using hb), q⟩
theorem walk_enumT {K : PySem.W.Frag} {a : Addr} {xs : List V} : Walk (ItteT K a) xs.length (fun H => SqT K H a xs) (YPair (fun i => some (.int (i : Nat))) (fun i => xs[i]?)) :=
  ⟨fun i H hi h => ⟨xs, xs[i], h, by simp [hi]⟩, fun H h => ⟨xs, h, rfl⟩, fun i H x H' hi h y => by
    obtain ⟨T, z, e, n, e2, q⟩ := y
    exact ⟨T, _, z, e, n, e2, rfl, q xs h⟩⟩
end GL
set_option maxHeartbeats 4000000
/-! A def with one parameter and a rest (*rest): what is given behind the first stands in a new tuple. -/
namespace GL
open PySem PySem.Spec PyProof.Rows L2
/-- an exception of a call at a heap that has grown by one tuple is one of the call at the heap before -/
def Grown (CX : CXT) : Prop := ∀ (P : Program) (w : World) (outer : List Env) (H : Hp) (p : Addr) (xs : List V) (s s1 : Shared) (E : XK) (e : Value) (s' : Shared), HOk P w H s.heap → (∀ b u, s.heap.get? b = some u → s1.heap.get? b = some u) → s.heap.objs.size ≤ p → s1.os = s.os →
  CX outer (upd H p (.tup xs)) s1 E e s' → CX outer H s E e s'
theorem grown0 : Grown CX0 := fun _ _ _ _ _ _ _ _ _ _ _ _ _ _ _ h => h
theorem grownX {P : Program} {w : World} {outer : List Env} {H : Hp} {p : Addr} {xs : List V} {s s1 : Shared} {E : XK} {e : Value} {s' : Shared} (hok : HOk P w H s.heap) (kp : ∀ b u, s.heap.get? b = some u → s1.heap.get? b = some u) (hp : s.heap.objs.size ≤ p) (os : s1.os = s.os)
    (h : L2.CX P w outer (upd H p (.tup xs)) s1 E e s') : L2.CX P w outer H s E e s' := by
  obtain ⟨a, B, H2, cls, d, rfl, fly, ok2, ub, na, os2, bare, q⟩ := h
  have nP : H p = none := hok.fresh hp
  have lt : ∀ b o, s.heap.get? b = some o → b ≠ p := fun b o z => Nat.ne_of_lt (Nat.lt_of_lt_of_le (Heap.lt_size z) hp)
  have at_ : ∀ b u, H b = some u → upd H p (.tup xs) b = some u := fun b u z => by rw [upd_ne (ne_of_none z nP)]; exact z
  have un : ∀ b o, s.heap.get? b = some o → H b = none → upd H p (.tup xs) b = none := fun b o z n => by rw [upd_ne (lt b o z)]; exact n
  exact ⟨a, B, H2, cls, d, rfl, fly, ok2,
    { keep := fun b o z n m => ub.keep b o (kp b o z) (un b o z n) m
      slot := fun b o z m => ub.slot b o (kp b o z) m
      free := fun b o z n => ub.free b o (kp b o z) (un b o z n)
      there := fun b o z m => ub.there b o (kp b o z) m
      tups := fun b ys z => ub.tups b ys (at_ b _ z)
      frzs := fun b o u z => ub.frzs b o u (at_ b _ z)
      tbls := fun b ps z => ub.tbls b ps (at_ b _ z) }, na, os2.trans os, bare, q⟩
section
variable {P : Program} {w : World} {K : PySem.W.Frag} {mg : Str → Option Value} {base : Heap}
/-- the state behind the binding: the rest's tuple is new -/
theorem env0_tup {A : Around} {outer : List Env} {s : Shared} {H : Hp} {us : List Value} {vs : List V} (e0 : Env0 P w K mg base A outer s H) (r : Vals vs us) (small : vs.length ≤ sizeLine) :
    Env0 P w K mg base A outer { s with heap := s.heap.push { cls := .type "tuple", data := .seq us.toArray } } (upd H s.heap.objs.size (.tup vs)) := by
  have kp : ∀ b o, s.heap.get? b = some o → (s.heap.push { cls := .type "tuple", data := .seq us.toArray }).get? b = some o := fun b o z => Heap.get?_push_of_some _ z
  refine ⟨e0.frames, e0.mod, fun b o z => ?_, Nat.le_trans e0.bsz (by rw [Heap.size_push]; exact Nat.le_succ _), ?_, fun b hb => ?_, ?_, e0.bare⟩
  · obtain ⟨z1, z2⟩ := e0.bs b o z
    exact ⟨kp b o z1, by rw [upd_ne (Nat.ne_of_lt (Heap.lt_size z1))]; exact z2⟩
  · exact Heap.FunFrames.of_keeps (fun b o z _ => ⟨o, kp b o z, rfl⟩) e0.funs
  · have z := e0.frf b hb
    obtain ⟨_, o, z1, _⟩ := e0.funs.mem hb
    rw [upd_ne (Nat.ne_of_lt (Heap.lt_size z1))]
    exact z
  · exact e0.hok.laid (P := P) (w := w) kp (Nat.le_refl _) ⟨small, us, r, ⟨_, Heap.get?_push_size _ rfl, rfl, _, rfl⟩⟩
/-- what such a def binds -/
def RestBinds (fd : FuncData) (a r : Str) : Prop := ∀ (u : Value) (us : List Value), bindArgs fd ⟨u :: us, []⟩ = (newTuple us >>= fun t => pure [(a, u), (r, t)])
theorem okV {CX : CXT} {k : Nat} {f : Addr} {x qual a r : Str} {params : Arguments} {body : List Stmt} {scope : Scope} {fd : FuncData} {N : List Str} {sp : Sp} (F : FunD K x qual params body scope [] [] f fd) (S : FnScope N [a, r] scope) (hb : RestBinds fd a r)
    (grown : ∀ (outer : List Env) (H : Hp) (p : Addr) (xs : List V) (s s1 : Shared) (E : XK) (e : Value) (s' : Shared), HOk P w H s.heap → (∀ b u, s.heap.get? b = some u → s1.heap.get? b = some u) → s.heap.objs.size ≤ p → s1.os = s.os → CX outer (upd H p (.tup xs)) s1 E e s' → CX outer H s E e s')
    (len : ∀ vs H Q E, sp vs H Q E → ∃ v ws, vs = v :: ws ∧ ws.length ≤ sizeLine)
    (hbody : ∀ (cdv : Value) (A : Around) (outer : List Env) (s : Shared) (H : Hp) (v : V) (ws : List V) (Q : VK) (E : XK) (p : Addr), Room k (A.deeper (envOfC qual scope s.heap.objs.size f cdv)) → H p = none → sp (v :: ws) H Q E →
      ∃ t, PSs (cxOf CX P w K mg base N qual scope f cdv A outer s (upd H p (.tup ws)) E) body t ∧ t { nx := fun _ H' => Q .non H', rt := Q } (start N [v, .ref p]) (upd H p (.tup ws))) :
    FnR P w K mg base CX (k + 1) f sp := by
  intro A outer s H us vs Q E hr e0 rv hsp
  obtain ⟨v, ws, rfl, small⟩ := len _ _ _ _ hsp
  cases rv with
  | @cons _ u _ rest r1 r2 =>
    obtain ⟨oc, od, dV, kV, doc, pm, an, cdv, ct, osl, rfl, lk, hcd, _, _⟩ := F.ex
    have e1 := env0_tup e0 r2 small
    have kp : ∀ b o, s.heap.get? b = some o → (s.heap.push { cls := .type "tuple", data := .seq rest.toArray }).get? b = some o := fun b o z => Heap.get?_push_of_some _ z
    have inS : K.In s.heap := e0.mod.kin.keeps fun b o e => (e0.bs b o e).1
    have noLim : s.heap.NoLimit := e0.mod.nolimit.keeps fun b o e => (e0.bs b o e).1
    have fresh : H s.heap.objs.size = none := e0.hok.fresh (Nat.le_refl _)
    have rel : Vals [v, V.ref s.heap.objs.size] [u, Value.ref s.heap.objs.size] := .cons r1 (.cons rfl .nil)
    have kinds : ∀ y ∈ [a, r].zip [u, Value.ref s.heap.objs.size], scope.names.lookup y.1 = some .local ∨ (scope.names.lookup y.1 = some .cell ∧ ((cellsFrom ((s.heap.push { cls := .type "tuple", data := .seq rest.toArray }).objs.size + 1) scope.names []).lookup y.1).isSome = true) := by
      intro y hy
      exact (S.par y.1 (List.of_mem_zip (a := y.1) (b := y.2) hy).1).imp id fun q => ⟨q, PySem.W.cellsFrom_some _ _ _ (.inl q)⟩
    apply codeAny_call_function hr.depth (inS _ _ lk) rfl S.co S.gen rfl (PySem.W.codeRec_of inS hcd)
    rw [hb u rest]
    apply wpAny_bind
    refine wpAny_newObj_type ?_ (by show rest.toArray.size ≤ sizeLine; rw [List.size_toArray, ← Paired.length r2]; exact small)
    apply wpAny_pure
    refine wpAny_newFunctionEnv_cells (s := { s with heap := s.heap.push { cls := .type "tuple", data := .seq rest.toArray } }) S.kind kinds ?_
    intro env he s1 entered
    cases he
    refine ⟨(noLim.keeps kp).keeps entered.toInCall.keep, codeAny_func ?_⟩
    obtain ⟨t, tOk, tRun⟩ := hbody cdv A outer { s with heap := s.heap.push { cls := .type "tuple", data := .seq rest.toArray } } H v ws Q E s.heap.objs.size (hr.deeper _) fresh hsp
    have atStart : Inv (cxOf CX P w K mg base N qual scope f cdv A outer { s with heap := s.heap.push { cls := .type "tuple", data := .seq rest.toArray } } (upd H s.heap.objs.size (.tup ws)) E) [] (start N [v, V.ref s.heap.objs.size]) (upd H s.heap.objs.size (.tup ws)) s1 := inv_start S hr.hd e1 rfl rel entered
    have un : Un (frs outer) [] H (upd H s.heap.objs.size (.tup ws)) s.heap (s.heap.push { cls := .type "tuple", data := .seq rest.toArray }) := Un.laid kp (Nat.le_refl _) fresh
    refine wpAny_mono (tOk.run [] s1 _ _ _ atStart tRun) (fun fl s' hs => ?_) fun e s' hs => ?_
    · match fl, hs with
      | .ret z, hs =>
        obtain ⟨y, σ', H', J, q1, q⟩ := hs
        exact ⟨y, H', J.os, J.bare, un.trans J.base, J.hok, q1, q⟩
      | .next, hs =>
        obtain ⟨σ', H', J, q⟩ := hs
        exact ⟨V.non, H', J.os, J.bare, un.trans J.base, J.hok, rfl, q⟩
      | .brk, hs =>
        obtain ⟨_, _, _, q⟩ := hs
        exact False.elim q
      | .cont, hs =>
        obtain ⟨_, _, _, q⟩ := hs
        exact False.elim q
    · have up : ∀ e' s'', CX outer (upd H s.heap.objs.size (.tup ws)) { s with heap := s.heap.push { cls := .type "tuple", data := .seq rest.toArray } } E e' s'' → CX outer H s E e' s'' := fun e' s'' z => grown outer H s.heap.objs.size ws s { s with heap := s.heap.push { cls := .type "tuple", data := .seq rest.toArray } } E e' s'' e0.hok kp (Nat.le_refl _) rfl z
      exact wpAny_mono hs (fun _ s'' z => up _ _ z) fun e' s'' z => up _ _ z
end
end GL
set_option maxHeartbeats 4000000
/-! raise C() of a class of errors that has nothing of its own. -/
namespace GL
open PySem PySem.Spec PyProof.Rows L2
section
variable {X : Cx}
theorem pmk_own0 {C : Addr} {bmB : List Value} {B newId initId : String} {x : Str} {p pos : Pos} (F : ExcBaseFacts B newId initId bmB) (own : PySem.W.excIn X.K C bmB newId = true) (gC : X.mg x = some (.ref C)) (keep : PySem.W.keepIn X.K (.ref C) = true) (r : Raises X (.ref C)) (hg : Gl X x)
    (hdb : (x == ("__debug__" : Str)) = false := by decide) : PMk X (.Call (.Name x p) [] [] pos) (fun _ H Q => Q (.ref C) none H) := by
  intro pins s σ H Q I q
  apply wpAny_Call_Name_kw
  refine ld_glob I hg gC ?_ hdb
  refine PySem.W.callWith_K0 I.kIn keep ?_
  show wpAny _ _ (PySem.call (.ref C) []) _ _ _
  obtain ⟨bm, N, nm, qn, bs, hdct, sn, sub, ab, col, dd, k0, k1, k2, k3, k5, mN, hC, hN, hni, T⟩ := exc_obj I.kIn own
  refine wpAny_call_exc_subT F T hC hN hni (fun h' e hm => ?_) (by show 0 ≤ sizeLine; exact Nat.zero_le _)
  exact mk_of I hm r q (I.hok.gone hm.new)
end
end GL
set_option maxHeartbeats 4000000
namespace K18
open PySem PySem.Spec PyProof.Rows L2 GL
abbrev aIA (K : PySem.W.Frag) : Addr := He.ga K "InvalidName"
abbrev aIL (K : PySem.W.Frag) : Addr := He.ga K "InvalidRule"
abbrev aTM (K : PySem.W.Frag) : Addr := He.ga K "TooMany"
/-- what goes out: an error of the class at C with these fields; all stands -/
def outW (C : Addr) (fs : List (Str × V)) (H : Hp) (E : XK) : Prop := ∀ d H2, Same H H2 → H d = none → H2 d = some (.xd fs) → E (.ref C) (some d) H2
theorem none_of {H H1 : Hp} {p : Addr} (k : Same H H1) (n : H1 p = none) : H p = none := by
  cases e : H p with
  | none => rfl
  | some o =>
    have z := k _ _ e
    rw [n] at z
    cases z
theorem outW.same {C : Addr} {fs : List (Str × V)} {H H' : Hp} {E : XK} (h : outW C fs H E) (k : Same H H') : outW C fs H' E := fun d H2 k2 n e => h d H2 (k.trans k2) (none_of k n) e
theorem passE {X : Cx} {E : XK} (tk : Takes X fun cls d _ H => E cls d H) : Passes (L2.CX X.prog X.w) X E := passes_call tk fun _ _ _ _ h => h
def MkE (P : Program) (w : World) (K : PySem.W.Frag) (mg : Str → Option Value) (base : Heap) (C : Addr) (fl : List Str) : Prop := ∃ fI fd, PySem.W.findIn K (.ref C) "__init__" = some (some (.ref fI)) ∧ PySem.W.typeIn K (.ref fI) = some (.type "function") ∧ FnOk P w K mg base CX0 1 fI fd ("self" :: fl) (spInit C fl) ∧ Binds K fd ("self" :: fl) []
/-- the errors of rules -/
structure EM (P : Program) (w : World) (K : PySem.W.Frag) (mg : Str → Option Value) (base : Heap) : Prop where
  xA : XC K (aIA K) .ve
  xL : XC K (aIL K) .ve
  xT : XC K (aTM K) .ve
  gA : mg "InvalidName" = some (.ref (aIA K))
  gL : mg "InvalidRule" = some (.ref (aIL K))
  gT : mg "TooMany" = some (.ref (aTM K))
  mA : MkE P w K mg base (aIA K) ["value"]
  mL : MkE P w K mg base (aIL K) ["part", "position"]
  mT : MkE P w K mg base (aTM K) ["kind", "limit"]
section
variable {P : Program} {w : World} {K : PySem.W.Frag} {mg : Str → Option Value} {base : Heap}
/-- nothing goes out -/
theorem FnOk.ground {k : Nat} {f : Addr} {fd : FuncData} {ps : List Str} {sp : Sp} (F : FnOk P w K mg base (L2.CX P w) k f fd ps sp) : FnOk P w K mg base CX0 k f fd ps (fun vs H Q _ => sp vs H Q E0) :=
  ⟨fun vs H Q E h => F.len vs H Q E0 h, fun A outer s H args us vs Q E hr he hb hv hs => codeAny_mono (F.run A outer s H args us vs Q E0 hr he hb hv hs) fun r s' h => match r, h with
    | .error e, h => by
      obtain ⟨_, _, _, _, _, _, _, _, _, _, _, _, z⟩ := h
      exact z.elim
    | .ok (.ret _), h => h
    | .ok .next, h => False.elim h
    | .ok .brk, h => False.elim h
    | .ok .cont, h => False.elim h⟩
/-! ### _check_when -/
def rFs (part : Str) (v : V) : List (Str × V) := [("position", v), ("part", .str part)]
/-- conditions, or the first that is none -/
def spChkWhen (K : PySem.W.Frag) : Sp := fun vs H Q E => ∃ x, vs = [x] ∧
  ((∃ t, TyX K H x t ∧ PySem.W.kitAny K t [.type "list", .type "tuple"] = some false ∧ outW (aIL K) (rFs "when" .non) H E) ∨
   ∃ (a : Addr) (xs : List V) (t : Value), x = .ref a ∧ TyX K H x t ∧ PySem.W.kitAny K t [.type "list", .type "tuple"] = some true ∧ (SqL K H a xs ∨ SqT K H a xs) ∧ xs.length ≤ 1000 ∧
    (((∀ v ∈ xs, CondB K H v true) ∧ ∀ H', Same H H' → Q .non H') ∨ ∃ (j : Nat) (v : V), xs[j]? = some v ∧ CondB K H v false ∧ (∀ (i : Nat) (u : V), i < j → xs[i]? = some u → CondB K H u true) ∧ outW (aIL K) (rFs "when" (.int (j : Nat))) H E))
abbrev nChkWhen : List Str := ["when", "position", "value"]
theorem scChkWhen : FnScope nChkWhen ["when"] (defScope sChkWhen) := ⟨rfl, rfl, rfl, by decide +kernel, rfl, by decide +kernel, by decide +kernel⟩
theorem ok_chkWhen {f : Addr} {fd : FuncData} (F : Fun K "_check_when" "_check_when" sChkWhen f fd) (il : DefF P w K mg base "is_list" 1 ["value"] (spIsList K)) (ic : DefF P w K mg base "_is_condition" 3 ["value"] (spCond K)) (gE : mg "enumerate" = none) (Z : EM P w K mg base) :
    FnOk P w K mg base (L2.CX P w) 4 f fd ["when"] (spChkWhen K) := by
  obtain ⟨fL, fdL, GL_, gL, bL, kL⟩ := il
  obtain ⟨fC, fdC, GC_, gC, bC, kC⟩ := ic
  obtain ⟨fI, fdI, i1, i2, GI, bI⟩ := Z.mL
  refine F.okX scChkWhen (fun vs H Q E h => ?_) (fun cdv A outer s H vs Q E hr h => ?_)
  · obtain ⟨x, rfl, _⟩ := h
    rfl
  · obtain ⟨x, rfl, h⟩ := h
    have r2 : Room 2 _ := hr.mono (by decide)
    refine ⟨_, pss_cons (ps_if (pt_not (pt_val (pe_call GL_ (hr.mono (by decide)) rfl gL kL bL .nil pass0 (pa_cons (pv 0) pa_nil)))) (pss_one (ps_raise rfl (takes_of rfl rfl rfl rfl) (pmk_x Z.xL i1 i2 GI r2 bI rfl Z.gL (pa_cons pe_str (pa_cons pe_non pa_nil))))) pss_nil)
      (pss_one (ps_for (passes_of rfl) rfl (pi_enumT rfl gE (pa_cons (pv 0) pa_nil)) (pg_tup (by rfl) (pgs_cons (pg_name (i := 1) scChkWhen.nd rfl (.inl rfl)) (pgs_cons (pg_name (i := 2) scChkWhen.nd rfl (.inl rfl)) pgs_nil)))
        (pss_one (ps_if (pt_not (pt_val (pe_call GC_ hr rfl gC kC bC .nil pass0 (pa_cons (pv 2) pa_nil)))) (pss_one (ps_raise rfl (takes_of rfl rfl rfl rfl) (pmk_x Z.xL i1 i2 GI r2 bI rfl Z.gL (pa_cons pe_str (pa_cons (pv 1) pa_nil))))) pss_nil)))), ?_⟩
    rcases h with ⟨t, ty, e, out⟩ | ⟨a, xs, t, rfl, ty, e, sq, len, h⟩
    · exact ⟨_, rfl, x, t, false, rfl, ty, e, fun H1 s1 => ⟨_, rfl, iteT ⟨rfl, by show 2 ≤ 1000; decide, fun d H2 k2 n2 e2 => (out.same s1) d H2 k2 n2 e2⟩⟩⟩
    refine ⟨_, rfl, .ref a, t, true, rfl, ty, e, fun H1 s1 => ⟨_, rfl, iteF ?_⟩⟩
    rcases h with ⟨all, k⟩ | ⟨j, v, hj, bad, bef, out⟩
    · rcases sq with sq | sq
      · have hq := L2.SqL.ext sq s1
        refine ⟨_, rfl, a, xs, rfl, .inl ⟨hq, ?_⟩⟩
        refine for_it walk_enum (fun i z G => Same H1 G ∧ ∃ v1 v2, z = [some (.ref a), v1, v2]) ⟨fun _ _ e => e, none, none, rfl⟩ (fun i z G _ h => L2.SqL.ext hq h.1) ?_ ?_
        · rintro i y z G G' hi ⟨sG, v1, v2, rfl⟩ ⟨T, p, u, rfl, nT, rfl, e1, e2⟩
          cases e1
          have uT := same_new (o := .tup [V.int (i : Nat), u]) nT
          refine ⟨T, _, rfl, SqT.of upd_same, rfl, _, _, rfl, _, _, rfl, rfl, ?_⟩
          have sA := (s1.trans sG).trans uT
          exact ⟨_, rfl, u, true, rfl, (all u (List.mem_of_getElem? e2)).same sA, fun G2 s2 => ⟨_, rfl, iteF ⟨(sG.trans uT).trans s2, _, _, rfl⟩⟩⟩
        · rintro z G ⟨sG, v1, v2, rfl⟩
          exact k G (s1.trans sG)
      · have hq := L2.SqT.ext sq s1
        refine ⟨_, rfl, a, xs, rfl, .inr ⟨hq, ?_⟩⟩
        refine for_it walk_enumT (fun i z G => Same H1 G ∧ ∃ v1 v2, z = [some (.ref a), v1, v2]) ⟨fun _ _ e => e, none, none, rfl⟩ (fun i z G _ h => L2.SqT.ext hq h.1) ?_ ?_
        · rintro i y z G G' hi ⟨sG, v1, v2, rfl⟩ ⟨T, p, u, rfl, nT, rfl, e1, e2⟩
          cases e1
          have uT := same_new (o := .tup [V.int (i : Nat), u]) nT
          refine ⟨T, _, rfl, SqT.of upd_same, rfl, _, _, rfl, _, _, rfl, rfl, ?_⟩
          have sA := (s1.trans sG).trans uT
          exact ⟨_, rfl, u, true, rfl, (all u (List.mem_of_getElem? e2)).same sA, fun G2 s2 => ⟨_, rfl, iteF ⟨(sG.trans uT).trans s2, _, _, rfl⟩⟩⟩
        · rintro z G ⟨sG, v1, v2, rfl⟩
          exact k G (s1.trans sG)
    · rcases sq with sq | sq
      · have hq := L2.SqL.ext sq s1
        refine ⟨_, rfl, a, xs, rfl, .inl ⟨hq, ?_⟩⟩
        refine for_it walk_enum (fun i z G => i ≤ j ∧ Same H1 G ∧ ∃ v1 v2, z = [some (.ref a), v1, v2]) ⟨Nat.zero_le _, fun _ _ e => e, none, none, rfl⟩ (fun i z G _ h => L2.SqL.ext hq h.2.1) ?_ ?_
        · rintro i y z G G' hi ⟨le, sG, v1, v2, rfl⟩ ⟨T, p, u, rfl, nT, rfl, e1, e2⟩
          cases e1
          have uT := same_new (o := .tup [V.int (i : Nat), u]) nT
          refine ⟨T, _, rfl, SqT.of upd_same, rfl, _, _, rfl, _, _, rfl, rfl, ?_⟩
          have sA := (s1.trans sG).trans uT
          rcases Nat.lt_or_eq_of_le le with lt | rfl
          · exact ⟨_, rfl, u, true, rfl, (bef i u lt e2).same sA, fun G2 s2 => ⟨_, rfl, iteF ⟨lt, (sG.trans uT).trans s2, _, _, rfl⟩⟩⟩
          · obtain rfl : v = u := Option.some.inj (hj.symm.trans e2)
            refine ⟨_, rfl, v, false, rfl, bad.same sA, fun G2 s2 => ⟨_, rfl, iteT ⟨_, rfl, rfl, by show 2 ≤ 1000; decide, ?_⟩⟩⟩
            exact fun d H2 k2 n2 e3 => (out.same (sA.trans s2)) d H2 k2 n2 e3
        · rintro z G ⟨le, _⟩
          exact absurd (List.getElem?_eq_some_iff.mp hj).1 (Nat.not_lt.mpr le)
      · have hq := L2.SqT.ext sq s1
        refine ⟨_, rfl, a, xs, rfl, .inr ⟨hq, ?_⟩⟩
        refine for_it walk_enumT (fun i z G => i ≤ j ∧ Same H1 G ∧ ∃ v1 v2, z = [some (.ref a), v1, v2]) ⟨Nat.zero_le _, fun _ _ e => e, none, none, rfl⟩ (fun i z G _ h => L2.SqT.ext hq h.2.1) ?_ ?_
        · rintro i y z G G' hi ⟨le, sG, v1, v2, rfl⟩ ⟨T, p, u, rfl, nT, rfl, e1, e2⟩
          cases e1
          have uT := same_new (o := .tup [V.int (i : Nat), u]) nT
          refine ⟨T, _, rfl, SqT.of upd_same, rfl, _, _, rfl, _, _, rfl, rfl, ?_⟩
          have sA := (s1.trans sG).trans uT
          rcases Nat.lt_or_eq_of_le le with lt | rfl
          · exact ⟨_, rfl, u, true, rfl, (bef i u lt e2).same sA, fun G2 s2 => ⟨_, rfl, iteF ⟨lt, (sG.trans uT).trans s2, _, _, rfl⟩⟩⟩
          · obtain rfl : v = u := Option.some.inj (hj.symm.trans e2)
            refine ⟨_, rfl, v, false, rfl, bad.same sA, fun G2 s2 => ⟨_, rfl, iteT ⟨_, rfl, rfl, by show 2 ≤ 1000; decide, ?_⟩⟩⟩
            exact fun d H2 k2 n2 e3 => (out.same (sA.trans s2)) d H2 k2 n2 e3
        · rintro z G ⟨le, _⟩
          exact absurd (List.getElem?_eq_some_iff.mp hj).1 (Nat.not_lt.mpr le)
end
end K18
set_option maxHeartbeats 4000000
namespace K18
open PySem PySem.Spec PyProof.Rows L2 GL
abbrev sChkMoves : Stmt := tp 35
section
variable {P : Program} {w : World} {K : PySem.W.Frag} {mg : Str → Option Value} {base : Heap}
/-- a Move, or not -/
def MvB (K : PySem.W.Frag) (H : Hp) (v : V) (b : Bool) : Prop := ∃ t, TyX K H v t ∧ PySem.W.kitOne K t (.ref (aM K)) = some b
theorem MvB.same {H H' : Hp} {v : V} {b : Bool} (h : MvB K H v b) (k : Same H H') : MvB K H' v b := by
  obtain ⟨t, ty, no⟩ := h
  exact ⟨t, TyX.same' ty k, no⟩
/-- moves, or none -/
def spChkMoves (K : PySem.W.Frag) : Sp := fun vs H Q E => ∃ x, vs = [x] ∧
  ((x = .non ∧ Q .non H) ∨
   (x ≠ .non ∧ (∃ t, TyX K H x t ∧ PySem.W.kitOne K t (.type "dict") = some false) ∧ outW (aIL K) (rFs "moves" .non) H E) ∨
   (∃ (d : Addr) (kvs : List (List Key × V)), x = .ref d ∧ H d = some (.dT kvs) ∧ kvs.length ≤ 1000 ∧ kvs ≠ [] ∧ outW (aIL K) (rFs "moves" .non) H E) ∨
   ∃ (d : Addr) (kvs : List (Key × V)), x = .ref d ∧ H d = some (.dK kvs) ∧ kvs.length ≤ 1000 ∧ (∀ kv ∈ kvs, KeyOk kv.1) ∧
    (((kvs.all fun kv => keyNm kv.1) = false ∧ outW (aIL K) (rFs "moves" .non) H E) ∨
     ((kvs.all fun kv => keyNm kv.1) = true ∧ ∃ ks : List Str, kvs.map (·.1) = ks.map Sum.inr ∧ ks.length < 64 ∧
      ((∀ u ∈ ks, ∃ v, valV kvs (.inr u) = some v ∧ MvB K H v true) ∧ (∀ H', Same H H' → Q .non H') ∨
       ∀ ys : List Str, ys.Perm ks → sortedS ys = true → ∃ (j : Nat) (u : Str) (v : V), ys[j]? = some u ∧ valV kvs (.inr u) = some v ∧ MvB K H v false ∧ (∀ (i : Nat) (u' : Str), i < j → ys[i]? = some u' → ∃ v', valV kvs (.inr u') = some v' ∧ MvB K H v' true) ∧
        outW (aIL K) (rFs "moves" (.str u)) H E))))
abbrev nChkMoves : List Str := ["moves", "level"]
theorem scChkMoves : FnScope nChkMoves ["moves"] (defScope sChkMoves) := ⟨rfl, rfl, rfl, by decide +kernel, rfl, by decide +kernel, by decide +kernel⟩
theorem ok_chkMoves {f : Addr} {fd : FuncData} (F : Fun K "_check_moves" "_check_moves" sChkMoves f fd) (hn : DefF P w K mg base "has_names" 3 ["value"] (spHasNames K)) (gS : mg "sorted" = none) (gM : mg "Move" = some (.ref (aM K))) (N : NF K mg) (Z : EM P w K mg base) :
    FnOk P w K mg base (L2.CX P w) 4 f fd ["moves"] (spChkMoves K) := by
  obtain ⟨fH, fdH, GH_, gH, bH, kH⟩ := hn
  obtain ⟨fI, fdI, i1, i2, GI, bI⟩ := Z.mL
  refine F.okX scChkMoves (fun vs H Q E h => ?_) (fun cdv A outer s H vs Q E hr h => ?_)
  · obtain ⟨x, rfl, _⟩ := h
    rfl
  · obtain ⟨x, rfl, h⟩ := h
    have r2 : Room 2 _ := hr.mono (by decide)
    have hu := hr.units
    have hu1 : (A.deeper (envOfC "_check_moves" (defScope sChkMoves) s.heap.objs.size f cdv)).units + 1 < cLine := by omega
    refine ⟨_, pss_cons (ps_if (pt_cmpR op_isN (pv 0) pe_non (nomark _)) (pss_one ps_retN) pss_nil)
      (pss_cons (ps_if (pt_not (pt_val (pe_call GH_ hr rfl gH kH bH .nil pass0 (pa_cons (pv 0) pa_nil)))) (pss_one (ps_raise rfl (takes_of rfl rfl rfl rfl) (pmk_x Z.xL i1 i2 GI r2 bI rfl Z.gL (pa_cons pe_str (pa_cons pe_non pa_nil))))) pss_nil)
      (pss_one (ps_for (passes_of rfl) rfl (pi_list (pe_callB (call_sortedD rfl) (by rfl) gS (by decide +kernel) (pa_cons (pv 0) pa_nil))) (pg_name (i := 1) scChkMoves.nd rfl (.inl rfl))
        (pss_one (ps_if (pt_not (pt_val (pe_callB call_isi (by rfl) N.isi (by decide +kernel) (pa_cons (pe_dget hu1 (pv 0) (pv 1) (fun _ _ => rfl)) (pa_cons (pe_glob (v := .ref (aM K)) rfl gM rfl) pa_nil)))))
          (pss_one (ps_raise rfl (takes_of rfl rfl rfl rfl) (pmk_x Z.xL i1 i2 GI r2 bI rfl Z.gL (pa_cons pe_str (pa_cons (pv 1) pa_nil))))) pss_nil))))), ?_⟩
    rcases h with ⟨rfl, k⟩ | ⟨ne, ⟨t, ty, no⟩, out⟩ | ⟨d, kvs, rfl, hd, len, ne, out⟩ | ⟨d, kvs, rfl, hd, len, ks, h⟩
    · exact ⟨_, rfl, rfl, _, rfl, iteT k⟩
    · refine ⟨_, rfl, rfl, _, rfl, ?_⟩
      rw [decide_eq_false ne]
      exact iteF ⟨_, rfl, x, false, rfl, .inr (.inr ⟨t, ty, no, rfl⟩), fun H1 s1 => ⟨_, rfl, iteT ⟨rfl, by show 2 ≤ 1000; decide, fun d H2 k2 n2 e2 => (out.same s1) d H2 k2 n2 e2⟩⟩⟩
    · exact ⟨_, rfl, rfl, _, rfl, iteF ⟨_, rfl, _, false, rfl, .inr (.inl ⟨d, kvs, rfl, hd, len, ne, rfl⟩), fun H1 s1 => ⟨_, rfl, iteT ⟨rfl, by show 2 ≤ 1000; decide, fun d H2 k2 n2 e2 => (out.same s1) d H2 k2 n2 e2⟩⟩⟩⟩
    · refine ⟨_, rfl, rfl, _, rfl, iteF ?_⟩
      rcases h with ⟨no, out⟩ | ⟨ok, us, eu, l64, h⟩
      · exact ⟨_, rfl, _, false, rfl, .inl ⟨d, kvs, rfl, hd, len, ks, no.symm⟩, fun H1 s1 => ⟨_, rfl, iteT ⟨rfl, by show 2 ≤ 1000; decide, fun d H2 k2 n2 e2 => (out.same s1) d H2 k2 n2 e2⟩⟩⟩
      · refine ⟨_, rfl, _, true, rfl, .inl ⟨d, kvs, rfl, hd, len, ks, ok.symm⟩, fun H1 s1 => ⟨_, rfl, iteF ?_⟩⟩
        refine ⟨_, rfl, d, kvs, us, rfl, .of (s1 _ _ hd), eu, l64, fun ys l pm so nl => ?_⟩
        have u2 := same_new (o := .lst (ys.map V.str)) nl
        have hl : upd H1 l (.lst (ys.map V.str)) l = some (.lst (ys.map V.str)) := upd_same
        generalize upd H1 l (.lst (ys.map V.str)) = H2 at *
        have s2 := s1.trans u2
        refine ⟨l, rfl, ⟨_, SqL.of hl⟩, ?_⟩
        have hd2 := s2 _ _ hd
        rcases h with ⟨all, k⟩ | h
        · refine for_it walk_list (fun i z G => Same H2 G ∧ ∃ v1, z = [some (.ref d), v1]) ⟨fun _ _ e => e, none, rfl⟩ (fun i z G _ h => L2.SqL.ext (SqL.of hl) h.1) ?_ ?_
          · rintro i y z G G' hi ⟨sG, v1, rfl⟩ ⟨rfl, e2⟩
            rw [List.getElem?_map] at e2
            obtain ⟨u, hu2, rfl⟩ := Option.map_eq_some_iff.mp e2
            obtain ⟨v, hv, t, ty, yes⟩ := all u (pm.mem_iff.mp (List.mem_of_getElem? hu2))
            exact ⟨_, rfl, _, rfl, d, v, rfl, .inl ⟨kvs, .inr u, .of (sG _ _ hd2), rfl, hv.symm⟩, v, .ref (aM K), t, _, true, rfl, .own _, TyX.same' (TyX.same' ty s2) sG, yes, true, rfl, iteF ⟨sG, _, rfl⟩⟩
          · rintro z G ⟨sG, v1, rfl⟩
            exact k G (s2.trans sG)
        · obtain ⟨j, w_, v, hj, hv, bad, bef, out⟩ := h ys pm so
          refine for_it walk_list (fun i z G => i ≤ j ∧ Same H2 G ∧ ∃ v1, z = [some (.ref d), v1]) ⟨Nat.zero_le _, fun _ _ e => e, none, rfl⟩ (fun i z G _ h => L2.SqL.ext (SqL.of hl) h.2.1) ?_ ?_
          · rintro i y z G G' hi ⟨le, sG, v1, rfl⟩ ⟨rfl, e2⟩
            rw [List.getElem?_map] at e2
            obtain ⟨u, hu2, rfl⟩ := Option.map_eq_some_iff.mp e2
            rcases Nat.lt_or_eq_of_le le with lt | rfl
            · obtain ⟨v', hv', t, ty, yes⟩ := bef i u lt hu2
              exact ⟨_, rfl, _, rfl, d, v', rfl, .inl ⟨kvs, .inr u, .of (sG _ _ hd2), rfl, hv'.symm⟩, v', .ref (aM K), t, _, true, rfl, .own _, TyX.same' (TyX.same' ty s2) sG, yes, true, rfl, iteF ⟨lt, sG, _, rfl⟩⟩
            · obtain rfl : w_ = u := Option.some.inj (hj.symm.trans hu2)
              obtain ⟨t, ty, no⟩ := bad
              refine ⟨_, rfl, _, rfl, d, v, rfl, .inl ⟨kvs, .inr w_, .of (sG _ _ hd2), rfl, hv.symm⟩, v, .ref (aM K), t, _, false, rfl, .own _, TyX.same' (TyX.same' ty s2) sG, no, false, rfl, iteT ⟨_, rfl, rfl, by show 2 ≤ 1000; decide, ?_⟩⟩
              exact fun d H2 k2 n2 e3 => (out.same (s2.trans sG)) d H2 k2 n2 e3
          · rintro z G ⟨le, _⟩
            rw [List.length_map] at le
            exact absurd (List.getElem?_eq_some_iff.mp hj).1 (Nat.not_lt.mpr le)
end
end K18
set_option maxHeartbeats 4000000
namespace K18
open PySem PySem.Spec PyProof.Rows L2 GL
abbrev sRule (j : Nat) : Stmt := inClass (tp 32) j
abbrev aRu (K : PySem.W.Frag) : Addr := He.ga K "Rule"
/-- a dict comprehension over what is walked -/
theorem dc_it {J : It} {n : Nat} {G : Hp → Prop} {Y : Nat → Hp → V → Hp → Prop} (w : Walk J n G Y) {g : TG} {tt : TT} {tk tv : TE} {vs : List Nat} {σ : L2.St} {H1 : Hp} {D : Addr} {Qd : Hp → Prop} (Pv : Nat → Hp → Prop) (h0 : Pv 0 (upd H1 D (.dK []))) (hG : ∀ i H, i ≤ n → Pv i H → G H)
    (hs : ∀ i x H H', i < n → Pv i H → Y i H x H' → g x (wipe σ vs) H' fun σ2 H2 => wipe σ2 vs = wipe σ vs ∧ tt σ2 H2 fun b H3 =>
      if b = true then tk σ2 H3 fun y H4 => tv σ2 H4 fun z H5 => ∃ kvs k, y = kV k ∧ H5 D = some (.dK kvs) ∧ kvs.length < sizeLine ∧ Pv (i + 1) (upd H5 D (.dK (putK kvs k z))) else Pv (i + 1) H3) (hd : ∀ H, Pv n H → Qd H) :
    ∃ W : Nat → Nat → Hp → Prop, (∃ m, W 0 m (upd H1 D (.dK []))) ∧ ∀ i m H, W i m H →
      (J.stop i H ∧ Qd H) ∨ (J.go i H ∧ ∃ Nx : Hp → Prop, (∀ H', Nx H' → ∃ m', m' < m ∧ W (i + 1) m' H') ∧ ∀ x H', J.yld i H x H' → g x (wipe σ vs) H' fun σ2 H2 => wipe σ2 vs = wipe σ vs ∧ tt σ2 H2 fun b H3 =>
        if b = true then tk σ2 H3 fun y H4 => tv σ2 H4 fun z H5 => ∃ kvs k, y = kV k ∧ H5 D = some (.dK kvs) ∧ kvs.length < sizeLine ∧ Nx (upd H5 D (.dK (putK kvs k z))) else Nx H3) := by
  refine ⟨fun i m H => m = n - i ∧ i ≤ n ∧ Pv i H, ⟨n, by simp, Nat.zero_le _, h0⟩, ?_⟩
  rintro i m H ⟨rfl, hi, p⟩
  have q := hG i H hi p
  by_cases hlt : i < n
  · refine .inr ⟨w.goes i H hlt q, Pv (i + 1), fun H' p' => ⟨n - (i + 1), by omega, rfl, hlt, p'⟩, fun x H' y => hs i x H H' hlt p (w.yields i H x H' hlt q y)⟩
  · have e : i = n := by omega
    subst e
    exact .inl ⟨w.stops H q, hd H p⟩
theorem pi_or {X : Cx} {tg e : Expr} {w1 w2 : TI} (a : PI X tg e w1) (b : PI X tg e w2) : PI X tg e (fun σ H R => w1 σ H R ∨ w2 σ H R) := ⟨fun pins s σ H R I h => h.elim (a.run pins s σ H R I) (b.run pins s σ H R I)⟩
/-- a list or a tuple in slot i is walked -/
theorem pi_seqV {X : Cx} {tg e : Expr} {i : Nat} (he : PE X e (tVar i)) : PI X tg e (fun σ H R => ∃ a xs, σ[i]? = some (some (.ref a)) ∧ (SqL X.K H a xs ∨ SqT X.K H a xs) ∧ ∀ (J : It) (Gd : Hp → Prop), Walk J xs.length Gd (YAt xs) → Gd H → (∀ H', Same H H' → Gd H') → R J H) :=
  ⟨fun pins s σ H R I h => by
    obtain ⟨a, xs, e, sq, k⟩ := h
    rcases sq with sq | sq
    · exact (pi_list he).run pins s σ H R I ⟨_, e, a, rfl, ⟨_, sq⟩, k _ _ walk_list sq fun H' s => L2.SqL.ext sq s⟩
    · exact (pi_tup he).run pins s σ H R I ⟨_, e, a, rfl, ⟨_, sq⟩, k _ _ walk_tup sq fun H' s => L2.SqT.ext sq s⟩⟩
/-- what the class Rule must have -/
structure UF (K : PySem.W.Frag) (mg : Str → Option Value) : Prop where
  cl : Cls K (aRu K)
  nG : NoAttr K (aRu K) "_goal"
  nA : NoAttr K (aRu K) "_answer"
  nW : NoAttr K (aRu K) "_when"
  nM : NoAttr K (aRu K) "_moves"
  gU : mg "Rule" = some (.ref (aRu K))
section
variable {P : Program} {w : World} {K : PySem.W.Frag} {mg : Str → Option Value} {base : Heap}
structure RU (P : Program) (w : World) (K : PySem.W.Frag) (mg : Str → Option Value) (base : Heap) : Prop where
  R : RH P w K mg base
  N : NF K mg
  U : UF K mg
  Z : EM P w K mg base
  nm : DefF P w K mg base "is_name" 2 ["value"] (spName K)
  cw : ∃ f fd, FnOk P w K mg base (L2.CX P w) 4 f fd ["when"] (spChkWhen K) ∧ mg "_check_when" = some (.ref f) ∧ Binds K fd ["when"] [] ∧ PySem.W.keepIn K (.ref f) = true
  cm : ∃ f fd, FnOk P w K mg base (L2.CX P w) 4 f fd ["moves"] (spChkMoves K) ∧ mg "_check_moves" = some (.ref f) ∧ Binds K fd ["moves"] [] ∧ PySem.W.keepIn K (.ref f) = true
  srt : mg "sorted" = none
  mst : ∃ u, mg "MOST_CONDITIONS" = some u ∧ RelV (.int 8) u
abbrev nRuleI : List Str := ["self", "goal", "answer", "when", "moves", "name", "level", "side", "number"]
theorem scRuleI : FnScope nRuleI ["self", "goal", "answer", "when", "moves"] (defScope (sRule 0)) := ⟨rfl, rfl, rfl, by decide +kernel, rfl, by decide +kernel, by decide +kernel⟩
/-- conditions as they are given -/
def CondsAt (K : PySem.W.Frag) (H : Hp) (xs : List V) (rows : List (Str × Str × Rat)) : Prop := xs.length = rows.length ∧ ∀ (i : Nat) (v : V) (r : Str × Str × Rat), xs[i]? = some v → rows[i]? = some r → ∃ c num, v = .ref c ∧ H c = some (.tup [.str r.1, .str r.2.1, num]) ∧ NumAt K H num r.2.2
/-- conditions as a rule has them -/
def RowsL (K : PySem.W.Frag) (H : Hp) (ys : List V) (rows : List (Str × Str × Rat)) : Prop := ys.length = rows.length ∧ ∀ (i : Nat) (v : V) (r : Str × Str × Rat), ys[i]? = some v → rows[i]? = some r → ∃ c p, v = .ref c ∧ H c = some (.tup [.str r.1, .str r.2.1, .ref p]) ∧ RatAt K H p r.2.2
def RowsAt (K : PySem.W.Frag) (H : Hp) (a : Addr) (rows : List (Str × Str × Rat)) : Prop := ∃ ys, H a = some (.tup ys) ∧ RowsL K H ys rows
def movesOf (kvs : List (Key × V)) (ys : List Str) : List (Key × V) := ys.map fun u => (Sum.inr u, (valV kvs (Sum.inr u)).getD .non)
/-- the moves that are given: None, or a dict -/
def MovesIn (H : Hp) (mv : V) (kvs : List (Key × V)) (ks : List Str) : Prop := (mv = .non ∧ kvs = [] ∧ ks = []) ∨ ∃ d, mv = .ref d ∧ H d = some (.dK kvs) ∧ kvs.map (·.1) = ks.map Sum.inr ∧ ks.length < 64 ∧ ks.Nodup
/-- a rule is made -/
def Suc (K : PySem.W.Frag) (s dx : Addr) (g a : V) (xs : List V) (mv : V) (H : Hp) (Q : VK) : Prop := ∃ rows kvs ks, xs.length ≤ 8 ∧ CondsAt K H xs rows ∧ MovesIn H mv kvs ks ∧
  ∀ H' tw md ys, Kp s H H' → ys.Perm ks → sortedS ys = true → RowsAt K H' tw rows → H' md = some (.dK (movesOf kvs ys)) → H' s = some (.ins (aRu K) dx [("_goal", g), ("_answer", a), ("_when", .ref tw), ("_moves", .ref md)]) → Q .non H'
def RuleTail (K : PySem.W.Frag) (s dx : Addr) (g a wh mv : V) (H : Hp) (Q : VK) (E : XK) : Prop := H s = some (.ins (aRu K) dx []) ∧ ∃ aw xs, wh = .ref aw ∧ (SqL K H aw xs ∨ SqT K H aw xs) ∧
  ((8 < xs.length ∧ outW (aTM K) [("limit", .int 8), ("kind", .str "conditions")] H E) ∨ Suc K s dx g a xs mv H Q)
def spRuleI (K : PySem.W.Frag) : Sp := fun vs H Q E => ∃ (s dx : Addr) (g a wh mv : V), vs = [.ref s, g, a, wh, mv] ∧
  ((∃ (j : Nat) (v : V), [g, a][j]? = some v ∧ IsNm K H v false ∧ (∀ (i : Nat) (u : V), i < j → [g, a][i]? = some u → IsNm K H u true) ∧ outW (aIA K) [("value", v)] H E) ∨
   ((∀ v ∈ [g, a], IsNm K H v true) ∧ ∀ H1, Same H H1 → spChkWhen K [wh] H1 (fun _ H2 => spChkMoves K [mv] H2 (fun _ H3 => RuleTail K s dx g a wh mv H3 Q E) E) E))
theorem sqL_kp {H H' : Hp} {s C dx a : Addr} {fs : List (Str × V)} {xs : List V} (h : SqL K H a xs) (e : H s = some (.ins C dx fs)) (k : Kp s H H') : SqL K H' a xs := by
  rcases h with (h | ⟨o, h⟩) | h
  · exact .inl (.inl (k _ _ (fun z => by rw [z, e] at h; cases h) h))
  · exact .inl (.inr ⟨o, k _ _ (fun z => by rw [z, e] at h; cases h) h⟩)
  · exact .inr h
theorem sqT_kp {H H' : Hp} {s C dx a : Addr} {fs : List (Str × V)} {xs : List V} (h : SqT K H a xs) (e : H s = some (.ins C dx fs)) (k : Kp s H H') : SqT K H' a xs := by
  rcases h with (h | ⟨o, h⟩) | h
  · exact .inl (.inl (k _ _ (fun z => by rw [z, e] at h; cases h) h))
  · exact .inl (.inr ⟨o, k _ _ (fun z => by rw [z, e] at h; cases h) h⟩)
  · exact .inr h
theorem CondsAt.kp {H H' : Hp} {s C dx : Addr} {fs : List (Str × V)} {xs : List V} {rows : List (Str × Str × Rat)} (h : CondsAt K H xs rows) (e : H s = some (.ins C dx fs)) (hf : fs.lookup ("_top" : Str) = none) (k : Kp s H H') : CondsAt K H' xs rows := ⟨h.1, fun i v r e1 e2 => by
  obtain ⟨c, num, ev, hc, hn⟩ := h.2 i v r e1 e2
  exact ⟨c, num, ev, k _ _ (fun z => by rw [z, e] at hc; cases hc) hc, hn.kp e hf k⟩⟩
theorem MovesIn.kp {H H' : Hp} {s C dx : Addr} {fs : List (Str × V)} {mv : V} {kvs : List (Key × V)} {ks : List Str} (h : MovesIn H mv kvs ks) (e : H s = some (.ins C dx fs)) (k : Kp s H H') : MovesIn H' mv kvs ks := by
  rcases h with h | ⟨d, ed, hd, r⟩
  · exact .inl h
  · exact .inr ⟨d, ed, k _ _ (fun z => by rw [z, e] at hd; cases hd) hd, r⟩
theorem MovesIn.same {H H' : Hp} {mv : V} {kvs : List (Key × V)} {ks : List Str} (h : MovesIn H mv kvs ks) (k : Same H H') : MovesIn H' mv kvs ks := by
  rcases h with h | ⟨d, ed, hd, r⟩
  · exact .inl h
  · exact .inr ⟨d, ed, k _ _ hd, r⟩
theorem RowsL.keep {H H' : Hp} {ys : List V} {rows : List (Str × Str × Rat)} (h : RowsL K H ys rows) (t : ∀ a xs, H a = some (.tup xs) → H' a = some (.tup xs)) (r : ∀ p q, RatAt K H p q → RatAt K H' p q) : RowsL K H' ys rows := ⟨h.1, fun i v u e1 e2 => by
  obtain ⟨c, p, ev, hc, hp⟩ := h.2 i v u e1 e2
  exact ⟨c, p, ev, t _ _ hc, r _ _ hp⟩⟩
theorem RowsL.same {H H' : Hp} {ys : List V} {rows : List (Str × Str × Rat)} (h : RowsL K H ys rows) (k : Same H H') : RowsL K H' ys rows := h.keep (fun a xs e => k _ _ e) fun p q e => e.same k
theorem RowsL.snoc {H : Hp} {ys : List V} {rows : List (Str × Str × Rat)} {r : Str × Str × Rat} {c p : Addr} (h : RowsL K H ys rows) (hc : H c = some (.tup [.str r.1, .str r.2.1, .ref p])) (hp : RatAt K H p r.2.2) : RowsL K H (ys ++ [.ref c]) (rows ++ [r]) := by
  refine ⟨by rw [List.length_append, List.length_append, h.1]; rfl, fun i v u e1 e2 => ?_⟩
  by_cases hi : i < ys.length
  · rw [List.getElem?_append_left hi] at e1
    rw [List.getElem?_append_left (by rw [← h.1]; exact hi)] at e2
    exact h.2 i v u e1 e2
  · rw [List.getElem?_append_right (by omega)] at e1
    rw [List.getElem?_append_right (by rw [← h.1]; omega)] at e2
    have i0 : i - ys.length = 0 := by
      have := (List.getElem?_eq_some_iff.mp e1).1
      simp at this
      omega
    rw [i0] at e1
    rw [← h.1, i0] at e2
    cases e1
    cases e2
    exact ⟨c, p, rfl, hc, hp⟩
theorem valV_in {kvs : List (Key × V)} {ks : List Str} {u : Str} (e : kvs.map (·.1) = ks.map Sum.inr) (hu : u ∈ ks) : ∃ v, valV kvs (Sum.inr u) = some v := by
  have h : (Sum.inr u : Key) ∈ kvs.map (·.1) := by
    rw [e]
    exact List.mem_map.mpr ⟨u, hu, rfl⟩
  obtain ⟨kv, hkv, ek⟩ := List.mem_map.mp h
  unfold valV
  cases c : kvs.find? fun kv => decide (kv.1 = (Sum.inr u : Key)) with
  | none =>
    have z := List.find?_eq_none.mp c kv hkv
    simp [ek] at z
  | some q => exact ⟨_, rfl⟩
theorem movesOf_put {kvs : List (Key × V)} {l : List Str} {u : Str} {v : V} (n : u ∉ l) (h : valV kvs (Sum.inr u) = some v) : putK (movesOf kvs l) (Sum.inr u) v = movesOf kvs (l ++ [u]) := by
  have no : (movesOf kvs l).any (fun kv => decide (kv.1 = (Sum.inr u : Key))) = false := by
    rw [List.any_eq_false]
    intro kv hkv
    obtain ⟨w, hw, rfl⟩ := List.mem_map.mp hkv
    simp
    rintro rfl
    exact n hw
  unfold putK
  rw [no]
  simp [movesOf, h]
theorem chkWhen_mono {vs : List V} {H : Hp} {Q Q' : VK} {E : XK} (h : spChkWhen K vs H Q E) (k : ∀ v H', Q v H' → Q' v H') : spChkWhen K vs H Q' E := by
  obtain ⟨x, e, h⟩ := h
  refine ⟨x, e, ?_⟩
  rcases h with h | ⟨a, xs, t, e1, ty, e2, sq, len, h⟩
  · exact .inl h
  · refine .inr ⟨a, xs, t, e1, ty, e2, sq, len, ?_⟩
    rcases h with ⟨all, h⟩ | h
    · exact .inl ⟨all, fun H' s => k _ _ (h H' s)⟩
    · exact .inr h
theorem chkMoves_mono {vs : List V} {H : Hp} {Q Q' : VK} {E : XK} (h : spChkMoves K vs H Q E) (k : ∀ v H', Q v H' → Q' v H') : spChkMoves K vs H Q' E := by
  obtain ⟨x, e, h⟩ := h
  refine ⟨x, e, ?_⟩
  rcases h with ⟨e1, h⟩ | h | h | ⟨d, kvs, e1, hd, len, ok, h⟩
  · exact .inl ⟨e1, k _ _ h⟩
  · exact .inr (.inl h)
  · exact .inr (.inr (.inl h))
  · refine .inr (.inr (.inr ⟨d, kvs, e1, hd, len, ok, ?_⟩))
    rcases h with h | ⟨e2, ks, e3, l, h⟩
    · exact .inl h
    · refine .inr ⟨e2, ks, e3, l, ?_⟩
      rcases h with ⟨all, h⟩ | h
      · exact .inl ⟨all, fun H' s => k _ _ (h H' s)⟩
      · exact .inr h
theorem ok_ruleI {kws : List (Str × V)} {f : Addr} {fd : FuncData} (F : FunD K "__init__" "Rule.__init__" (defArgs (sRule 0)) (defBody (sRule 0)) (defScope (sRule 0)) [] kws f fd) (M : RU P w K mg base) : FnOk P w K mg base (L2.CX P w) 5 f fd ["self", "goal", "answer", "when", "moves"] (spRuleI K) := by
  obtain ⟨mc, pp, fo, cr, cm, GO⟩ := M.R.of
  obtain ⟨fN, fdN, GN_, gN, bN, kN⟩ := M.nm
  obtain ⟨fW, fdW, GW_, gW, bW, kW⟩ := M.cw
  obtain ⟨fV, fdV, GV_, gV, bV, kV_⟩ := M.cm
  obtain ⟨fA, fdA, a1, a2, GA_, bA⟩ := M.Z.mA
  obtain ⟨fT, fdT, t1, t2, GT_, bT⟩ := M.Z.mT
  obtain ⟨uC, gC, rC⟩ := M.mst
  have T := M.U
  have TR := M.R.G.T
  have N := M.N
  refine F.ok scRuleI (fun vs H Q E h => ?_) (fun cdv A outer s H vs Q E hr h => ?_)
  · obtain ⟨s, dx, g, a, wh, mv, rfl, _⟩ := h
    rfl
  · have r2 : Room 2 _ := hr.mono (by decide)
    have hu := hr.units
    have hu1 : (A.deeper (envOfC "Rule.__init__" (defScope (sRule 0)) s.heap.objs.size f cdv)).units + 1 < cLine := by omega
    refine ⟨_, pss_cons (ps_for (passes_of rfl) rfl (pi_tup (pe_tup (pa_cons (pv 1) (pa_cons (pv 2) pa_nil)))) (pg_name (i := 5) scRuleI.nd rfl (.inl rfl))
        (pss_one (ps_if (pt_not (pt_val (pe_call GN_ r2 rfl gN kN bN .nil pass0 (pa_cons (pv 5) pa_nil)))) (pss_one (ps_raise rfl (takes_of rfl rfl rfl rfl) (pmk_x M.Z.xA a1 a2 GA_ r2 bA rfl M.Z.gA (pa_cons (pv 5) pa_nil)))) pss_nil)))
      (pss_cons (ps_expr (pe_call GW_ hr rfl gW kW bW .nil (passE (takes_of rfl rfl rfl rfl)) (pa_cons (pv 3) pa_nil)))
      (pss_cons (ps_expr (pe_call GV_ hr rfl gV kV_ bV .nil (passE (takes_of rfl rfl rfl rfl)) (pa_cons (pv 4) pa_nil)))
      (pss_cons (ps_if (pt_cmpR op_gt (pe_callB call_len_seq (by rfl) N.len PySem.boot_len (pa_cons (pv 3) pa_nil)) (pe_glob rfl gC rC) (nomark _)) (pss_one (ps_raise rfl (takes_of rfl rfl rfl rfl) (pmk_x M.Z.xT t1 t2 GT_ r2 bT rfl M.Z.gT (pa_cons pe_str (pa_cons (pe_glob rfl gC rC) pa_nil))))) pss_nil)
      (pss_cons (ps_fld (pv 0) (pv 1) rfl)
      (pss_cons (ps_fld (pv 0) (pv 2) rfl)
      (pss_cons (ps_fld (pv 0) (pe_callTy call_tuple_of (by rfl) N.tuple (by decide +kernel) (pa_cons (pe_lc (own := [("level", 6), ("side", 7), ("number", 8)]) (g := gTup K 3 (gCons (gName 6) (gCons (gName 7) (gCons (gName 8) gNil)))) (tt := tYes) (te := tTup (tCons (tVar 6) (tCons (tVar 7) (tCons (ClX.tCMeth (aR K) (spOf K) E0 (tC (.ref (aR K))) (tCons (tVar 8) tNil)) tNil)))) rfl scRuleI.nd (pi_seqV (pv 3))
          (blkOk_by (own := [("level", 6), ("side", 7), ("number", 8)]) (N := nRuleI) (sc := defScope (sRule 0)) (by decide +kernel)) (fun _ _ _ _ _ => by exact (pg_tup (by rfl) (pgs_cons (pg_name (i := 6) scRuleI.nd rfl (.inl rfl)) (pgs_cons (pg_name (i := 7) scRuleI.nd rfl (.inl rfl)) (pgs_cons (pg_name (i := 8) scRuleI.nd rfl (.inl rfl)) pgs_nil))))) (fun _ _ _ _ _ => pts_nil)
          (fun _ _ _ _ _ => by exact (pe_tup (pa_cons (pv 6) (pa_cons (pv 7) (pa_cons (ClX.pe_cmeth (pe_glob (v := .ref (aR K)) rfl TR.gR rfl) cr cm GO hr pass0 (pa_cons (pv 8) pa_nil)) pa_nil)))))) pa_nil)) rfl)
      (pss_one (ps_fld (pv 0) (pe_ifExp (pt_truth (pv 4) (fun _ => rfl)) (pe_dc (own := [("level", 6)]) (g := gName 6) (tt := tYes) rfl scRuleI.nd (pi_list (pe_callB (call_sortedD rfl) (by rfl) M.srt (by decide +kernel) (pa_cons (pv 4) pa_nil)))
          (blkOk_by (own := [("level", 6)]) (N := nRuleI) (sc := defScope (sRule 0)) (by decide +kernel)) (fun _ _ _ _ _ => pg_name (i := 6) scRuleI.nd rfl (Or.inl rfl)) (fun _ _ _ _ _ => pts_nil)
          (fun _ _ _ _ _ => by exact (pv 6)) (fun _ _ _ _ _ => by exact (pe_dget hu1 (pv 4) (pv 6) (fun _ _ => rfl)))) pe_dnewK) rfl)))))))), ?_⟩
    obtain ⟨s0, dx, g, a, wh, mv, rfl, h⟩ := h
    refine ⟨_, rfl, _, rfl, (by show 2 ≤ sizeLine; decide), fun tp np => ⟨tp, rfl, ⟨_, SqT.of upd_same⟩, ?_⟩⟩
    have u1 := same_new (o := .tup [g, a]) np
    have ht : upd H tp (.tup [g, a]) tp = some (.tup [g, a]) := upd_same
    generalize upd H tp (.tup [g, a]) = H1 at *
    rcases h with ⟨j, v, hj, bad, bef, out⟩ | ⟨all, h⟩
    · refine for_it walk_tup (fun i z G => i ≤ j ∧ Same H1 G ∧ ∃ v5, z = [some (.ref s0), some g, some a, some wh, some mv, v5, none, none, none]) ⟨Nat.zero_le _, fun _ _ e => e, none, rfl⟩ (fun i z G _ h => L2.SqT.ext (SqT.of ht) h.2.1) ?_ ?_
      · rintro i y z G G' hi ⟨le, sG, v5, rfl⟩ ⟨rfl, e2⟩
        have sA := u1.trans sG
        rcases Nat.lt_or_eq_of_le le with lt | rfl
        · exact ⟨_, rfl, y, true, rfl, (bef i y lt e2).same sA, fun G2 s2 => ⟨_, rfl, iteF ⟨lt, sG.trans s2, _, rfl⟩⟩⟩
        · obtain rfl : v = y := Option.some.inj (hj.symm.trans e2)
          exact ⟨_, rfl, v, false, rfl, bad.same sA, fun G2 s2 => ⟨_, rfl, iteT ⟨_, rfl, rfl, by show 1 ≤ 1000; decide, fun d H2 k2 n2 e3 => (out.same (sA.trans s2)) d H2 k2 n2 e3⟩⟩⟩
      · rintro z G ⟨le, _⟩
        exact absurd (List.getElem?_eq_some_iff.mp hj).1 (Nat.not_lt.mpr le)
    refine for_it walk_tup (fun i z G => Same H1 G ∧ ∃ v5, z = [some (.ref s0), some g, some a, some wh, some mv, v5, none, none, none]) ⟨fun _ _ e => e, none, rfl⟩ (fun i z G _ h => L2.SqT.ext (SqT.of ht) h.1) ?_ ?_
    · rintro i y z G G' hi ⟨sG, v5, rfl⟩ ⟨rfl, e2⟩
      exact ⟨_, rfl, y, true, rfl, (all y (List.mem_of_getElem? e2)).same (u1.trans sG), fun G2 s2 => ⟨_, rfl, iteF ⟨sG.trans s2, _, rfl⟩⟩⟩
    rintro z G ⟨sG, v5, rfl⟩
    refine ⟨_, rfl, ?_⟩
    unfold tNil
    dsimp only [List.append_nil]
    show spChkWhen K [wh] G _ E
    refine chkWhen_mono (h G (u1.trans sG)) fun _ H2 h2 => ?_
    refine ⟨_, rfl, ?_⟩
    show spChkMoves K [mv] H2 _ E
    refine chkMoves_mono h2 fun _ H3 h3 => ?_
    obtain ⟨es, aw, xs, rfl, sq, h⟩ := h3
    rcases h with ⟨many, out⟩ | ⟨rows, kvs, ks, l8, cs, mi, k⟩
    · refine ⟨_, rfl, aw, xs, rfl, sq, _, _, rfl, rfl, _, rfl, ?_⟩
      rw [decide_eq_true (by show (8 : Int) < xs.length; omega)]
      exact iteT ⟨rfl, by show 2 ≤ 1000; decide, fun d H2 k2 n2 e3 => out d H2 k2 n2 e3⟩
    refine ⟨_, rfl, aw, xs, rfl, sq, _, _, rfl, rfl, _, rfl, ?_⟩
    rw [decide_eq_false (by show ¬ (8 : Int) < xs.length; omega)]
    refine iteF ?_
    refine ⟨_, rfl, _, rfl, s0, _, dx, _, rfl, es, T.cl, T.nG, (by decide), ?_⟩
    refine ⟨_, rfl, _, rfl, s0, _, dx, _, rfl, upd_same, T.cl, T.nA, (by show 1 < 1000; decide), ?_⟩
    have kb : Kp s0 H3 (upd (upd H3 s0 (.ins (aRu K) dx (putF "_goal" g []))) s0 (.ins (aRu K) dx (putF "_answer" a (putF "_goal" g [])))) := Kp.put (Kp.put fun c o _ e => e)
    have eb : upd (upd H3 s0 (.ins (aRu K) dx (putF "_goal" g []))) s0 (.ins (aRu K) dx (putF "_answer" a (putF "_goal" g []))) s0 = some (.ins (aRu K) dx [("_goal", g), ("_answer", a)]) := upd_same
    have sqb : SqL K _ aw xs ∨ SqT K _ aw xs := sq.imp (fun h => sqL_kp h es kb) fun h => sqT_kp h es kb
    have csb := cs.kp es rfl kb
    have mib := mi.kp es kb
    generalize upd (upd H3 s0 (.ins (aRu K) dx (putF "_goal" g []))) s0 (.ins (aRu K) dx (putF "_answer" a (putF "_goal" g []))) = Hb at *
    -- the conditions
    refine ⟨aw, xs, rfl, sqb, fun J Gd wk g0 gs D hD => ?_⟩
    have uD := same_new (o := .lst []) hD
    refine lc_it wk (fun i G => Same Hb G ∧ ∃ acc, G D = some (.lst acc) ∧ RowsL K G acc (rows.take i)) ⟨uD, [], upd_same, by simp, fun i v r e => by simp at e⟩ (fun i G _ h => gs G h.1) ?_ ?_
    · rintro i y G G' hi ⟨sG, acc, hacc, ra⟩ ⟨rfl, hy⟩
      have hir : i < rows.length := by rw [← csb.1]; exact hi
      obtain ⟨c, num, rfl, hc, hn⟩ := csb.2 i y rows[i] hy (List.getElem?_eq_getElem hir)
      have hcG := sG _ _ hc
      refine ⟨c, _, rfl, SqT.of hcG, rfl, _, _, rfl, _, _, rfl, _, _, rfl, rfl, rfl, ?_⟩
      refine ⟨_, rfl, _, rfl, rfl, _, rfl, num, rows[i].2.2, rfl, hn.same sG, fun p G1 k1 hp => ⟨(by show 3 ≤ sizeLine; decide), fun t3 n3 => ?_⟩⟩
      have u3 := same_new (o := .tup [V.str rows[i].1, .str rows[i].2.1, .ref p]) n3
      have h3 : upd G1 t3 (.tup [V.str rows[i].1, .str rows[i].2.1, .ref p]) t3 = some (.tup [V.str rows[i].1, .str rows[i].2.1, .ref p]) := upd_same
      have hp3 := hp.same u3
      generalize upd G1 t3 (.tup [V.str rows[i].1, .str rows[i].2.1, .ref p]) = G2 at *
      have k2 := k1.trans u3
      have hacc2 := k2 _ _ hacc
      have la : acc.length = i := by
        rw [ra.1, List.length_take]
        omega
      have ra2 := (ra.same k2).snoc (r := rows[i]) h3 hp3
      refine ⟨acc, hacc2, by rw [la, sizeLine_eq]; omega, fun b o e => ?_, acc ++ [.ref t3], upd_same, ?_⟩
      · have e2 := k2 _ _ (sG _ _ e)
        rw [upd_ne (ne_of_none e hD)]
        exact e2
      · rw [List.take_add_one, List.getElem?_eq_getElem hir]
        refine ra2.keep (fun b zs e => ?_) fun b q h => ?_
        · rw [upd_ne (fun z => by rw [z, hacc2] at e; cases e)]
          exact e
        · obtain ⟨d, e⟩ := h
          exact ⟨d, by rw [upd_ne (fun z => by rw [z, hacc2] at e; cases e)]; exact e⟩
    rintro G ⟨sG, acc, hacc, ra⟩
    rw [csb.1, List.take_length] at ra
    refine ⟨D, acc, rfl, .inl ⟨SqL.of hacc, fun tw ntw => ?_⟩⟩
    have uw := same_new (o := .tup acc) ntw
    have tws : tw ≠ s0 := fun z => by rw [z, sG _ _ eb] at ntw; cases ntw
    have htw : upd G tw (.tup acc) tw = some (.tup acc) := upd_same
    have eG : upd G tw (.tup acc) s0 = some (.ins (aRu K) dx [("_goal", g), ("_answer", a)]) := uw _ _ (sG _ _ eb)
    refine ⟨_, rfl, s0, _, dx, _, rfl, eG, T.cl, T.nW, (by show 2 < 1000; decide), ?_⟩
    have kc : Kp s0 H3 (upd (upd G tw (.tup acc)) s0 (.ins (aRu K) dx (putF "_when" (.ref tw) [("_goal", g), ("_answer", a)]))) := (kb.same (sG.trans uw)).put
    have ec : upd (upd G tw (.tup acc)) s0 (.ins (aRu K) dx (putF "_when" (.ref tw) [("_goal", g), ("_answer", a)])) s0 = some (.ins (aRu K) dx [("_goal", g), ("_answer", a), ("_when", V.ref tw)]) := upd_same
    have kput : Kp s0 (upd G tw (.tup acc)) (upd (upd G tw (.tup acc)) s0 (.ins (aRu K) dx (putF "_when" (.ref tw) [("_goal", g), ("_answer", a)]))) := Kp.put fun c o _ e => e
    have rw_ : RowsAt K (upd (upd G tw (.tup acc)) s0 (.ins (aRu K) dx (putF "_when" (.ref tw) [("_goal", g), ("_answer", a)]))) tw rows := ⟨acc, kput _ _ tws htw, (ra.same uw).keep (fun b zs e => kput _ _ (fun z => by rw [z, eG] at e; cases e) e) fun p q h => h.kp (notRat eG rfl h) kput⟩
    have mic : MovesIn (upd (upd G tw (.tup acc)) s0 (.ins (aRu K) dx (putF "_when" (.ref tw) [("_goal", g), ("_answer", a)]))) mv kvs ks := (mib.same (sG.trans uw)).kp eG kput
    generalize upd (upd G tw (.tup acc)) s0 (.ins (aRu K) dx (putF "_when" (.ref tw) [("_goal", g), ("_answer", a)])) = Hc at *
    have fin : ∀ (Hd : Hp) (md : Addr) (ys : List Str), Same Hc Hd → ys.Perm ks → sortedS ys = true → Hd md = some (.dK (movesOf kvs ys)) → Q .non (upd Hd s0 (.ins (aRu K) dx (putF "_moves" (.ref md) [("_goal", g), ("_answer", a), ("_when", V.ref tw)]))) := by
      intro Hd md ys sd pm so hm
      have es := sd _ _ ec
      have kp : Kp s0 Hd (upd Hd s0 (.ins (aRu K) dx (putF "_moves" (.ref md) [("_goal", g), ("_answer", a), ("_when", V.ref tw)]))) := Kp.put fun c o _ e => e
      obtain ⟨zs, hz, rz⟩ := rw_
      refine k _ tw md ys (kc.same sd).put pm so ⟨zs, kp _ _ (fun z => by rw [z] at hz; rw [ec] at hz; cases hz) (sd _ _ hz), (rz.same sd).keep (fun b ws e => kp _ _ (fun z => by rw [z, es] at e; cases e) e) fun p q h => h.kp (notRat es rfl h) kp⟩ (kp _ _ (fun z => by rw [z, es] at hm; cases hm) hm) upd_same
    rcases mic with ⟨rfl, rfl, rfl⟩ | ⟨d, rfl, hd, ek, l64, nd⟩
    · refine ⟨_, rfl, false, rfl, iteF fun md nmd => ?_⟩
      exact ⟨_, rfl, s0, _, dx, _, rfl, same_new nmd _ _ ec, T.cl, T.nM, (by show 3 < 1000; decide), fin _ md [] (same_new nmd) .nil rfl upd_same⟩
    · refine ⟨_, rfl, _, .inr (.inr ⟨kvs, hd, rfl⟩), ?_⟩
      cases hk : kvs.isEmpty with
      | true =>
        have e0 : kvs = [] := List.isEmpty_iff.mp hk
        subst e0
        have k0 : ks = [] := by
          cases ks with
          | nil => rfl
          | cons _ _ => cases ek
        subst k0
        refine iteF fun md nmd => ?_
        exact ⟨_, rfl, s0, _, dx, _, rfl, same_new nmd _ _ ec, T.cl, T.nM, (by show 3 < 1000; decide), fin _ md [] (same_new nmd) .nil rfl upd_same⟩
      | false =>
        refine iteT ?_
        refine ⟨_, rfl, d, kvs, ks, rfl, .of hd, ek, l64, fun ys l pm so nl => ⟨l, rfl, ⟨_, SqL.of upd_same⟩, fun D2 hD2 => ?_⟩⟩
        have ul := same_new (o := .lst (ys.map V.str)) nl
        have hl : upd Hc l (.lst (ys.map V.str)) l = some (.lst (ys.map V.str)) := upd_same
        generalize upd Hc l (.lst (ys.map V.str)) = Hl at *
        have u2 := same_new (o := .dK []) hD2
        have ndy : ys.Nodup := pm.nodup_iff.mpr nd
        have ly : ys.length < 64 := by rw [pm.length_eq]; exact l64
        refine dc_it walk_list (fun i G => Same Hl G ∧ G D2 = some (.dK (movesOf kvs (ys.take i)))) ⟨u2, upd_same⟩ (fun i G _ h => L2.SqL.ext (SqL.of hl) h.1) ?_ ?_
        · rintro i y G G' hi ⟨sG, hG⟩ ⟨rfl, e2⟩
          rw [List.getElem?_map] at e2
          obtain ⟨u, hu, rfl⟩ := Option.map_eq_some_iff.mp e2
          obtain ⟨v, hv⟩ := valV_in ek (pm.mem_iff.mp (List.mem_of_getElem? hu))
          refine ⟨rfl, ?_⟩
          refine ⟨_, rfl, _, rfl, _, rfl, d, v, rfl, .inl ⟨kvs, .inr u, .of (sG _ _ (ul _ _ hd)), rfl, hv.symm⟩, _, .inr u, rfl, hG, ?_, ?_, ?_⟩
          · unfold movesOf
            rw [List.length_map, List.length_take, sizeLine_eq]
            omega
          · intro b o e
            rw [upd_ne (ne_of_none e hD2)]
            exact sG _ _ e
          · have nd2 : (ys.take i ++ [u]).Nodup := by
              have z := (List.take_sublist (i + 1) ys).nodup ndy
              rw [List.take_add_one, hu] at z
              exact z
            have no : u ∉ ys.take i := fun z => (List.nodup_append.mp nd2).2.2 u z u List.mem_cons_self rfl
            rw [upd_same, movesOf_put no hv, List.take_add_one, hu]
            rfl
        · rintro G ⟨sG, hG⟩
          rw [List.length_map, List.take_length] at hG
          have sd := ul.trans sG
          exact ⟨_, rfl, s0, _, dx, _, rfl, sd _ _ ec, T.cl, T.nM, (by show 3 < 1000; decide), fin G D2 ys sd pm so hG⟩
end
end K18
set_option maxHeartbeats 4000000
namespace K18
open PySem PySem.Spec PyProof.Rows L2 GL
/-- a rule: its goal, its answer, its conditions, its moves -/
def RuleAt (K : PySem.W.Frag) (H : Hp) (s : Addr) (g a : Str) (rows : List (Str × Str × Rat)) (kvs : List (Key × V)) : Prop := ∃ dx tw md, H s = some (.ins (aRu K) dx [("_goal", .str g), ("_answer", .str a), ("_when", .ref tw), ("_moves", .ref md)]) ∧ RowsAt K H tw rows ∧ H md = some (.dK kvs)
theorem RuleAt.same {K : PySem.W.Frag} {H H' : Hp} {s : Addr} {g a : Str} {rows : List (Str × Str × Rat)} {kvs : List (Key × V)} (h : RuleAt K H s g a rows kvs) (k : Same H H') : RuleAt K H' s g a rows kvs := by
  obtain ⟨dx, tw, md, e, ⟨ys, hy, r⟩, hm⟩ := h
  exact ⟨dx, tw, md, k _ _ e, ⟨ys, k _ _ hy, r.same k⟩, k _ _ hm⟩
theorem eqV_str (x y : Str) : eqV (.str x) (.str y) = decide (x = y) := by
  by_cases h : x = y
  · subst h
    simp [eqV]
  · rw [decide_eq_false h]
    simpa [eqV] using h
/-- the conditions of two rules, compared -/
theorem rows_eqB {K : PySem.W.Frag} {H : Hp} {a b : Addr} {r1 r2 : List (Str × Str × Rat)} (h1 : RowsAt K H a r1) (h2 : RowsAt K H b r2) : TupB K (TupS K (ThB K)) (.ref a) (.ref b) (decide (r1 = r2)) H := by
  obtain ⟨xs, hx, lx, ix⟩ := h1
  obtain ⟨ys, hy, ly, iy⟩ := h2
  refine ⟨a, b, xs, ys, fun i => decide (r1[i]? = r2[i]?), rfl, rfl, SqT.of hx, SqT.of hy, fun i x y _ e1 e2 => ?_, ?_⟩
  · have i1 : i < r1.length := by
      rw [← lx]
      exact (List.getElem?_eq_some_iff.mp e1).1
    have i2 : i < r2.length := by
      rw [← ly]
      exact (List.getElem?_eq_some_iff.mp e2).1
    obtain ⟨c, p, rfl, hc, hp⟩ := ix i x r1[i] e1 (List.getElem?_eq_getElem i1)
    obtain ⟨c', p', rfl, hc', hp'⟩ := iy i y r2[i] e2 (List.getElem?_eq_getElem i2)
    have eb : decide (r1[i]? = r2[i]?) = decide (r1[i] = r2[i]) := by
      rw [List.getElem?_eq_getElem i1, List.getElem?_eq_getElem i2]
      simp
    show TupS K (ThB K) (.ref c) (.ref c') (decide (r1[i]? = r2[i]?)) H
    rw [eb]
    generalize r1[i] = u at *
    generalize r2[i] = v at *
    obtain ⟨l, sd, q⟩ := u
    obtain ⟨l', sd', q'⟩ := v
    refine ⟨⟨c, c', _, _, fun j => match j with | 0 => decide (l = l') | 1 => decide (sd = sd') | _ => decide (q = q'), rfl, rfl, SqT.of hc, SqT.of hc', fun j x y _ e1 e2 => ?_, ?_⟩, ?_⟩
    · match j, e1, e2 with
      | 0, e1, e2 =>
        cases e1
        cases e2
        exact .inl ⟨rfl, rfl, (eqV_str l l').symm⟩
      | 1, e1, e2 =>
        cases e1
        cases e2
        exact .inl ⟨rfl, rfl, (eqV_str sd sd').symm⟩
      | 2, e1, e2 =>
        cases e1
        cases e2
        exact .inr ⟨p, p', q, q', rfl, rfl, hp, hp', rfl⟩
    · show decide ((l, sd, q) = (l', sd', q')) = PySem.GE.allB 3 3 _ 0
      have e : ∀ es : Nat → Bool, PySem.GE.allB 3 3 es 0 = (es 0 && (es 1 && es 2)) := by
        intro es
        rw [PySem.GE.allB_step (by decide), PySem.GE.allB_step (by decide), PySem.GE.allB_step (by decide), PySem.GE.allB_end (by decide)]
        simp
      rw [e]
      simp [Prod.ext_iff]
    · intro z
      injection z with z
      subst z
      rw [hc] at hc'
      injection hc' with hc'
      injection hc' with hc'
      injection hc' with z1 hc'
      injection z1 with z1
      injection hc' with z2 hc'
      injection z2 with z2
      injection hc' with z3 _
      injection z3 with z3
      subst z1 z2 z3
      have zq : q = q' := ratAt_inj hp hp'
      subst zq
      exact decide_eq_true rfl
  · rw [lx, ly]
    unfold PySem.GE.allB
    rw [List.drop_zero]
    by_cases h : r1 = r2
    · subst h
      rw [decide_eq_true rfl]
      simp
    · rw [decide_eq_false h]
      symm
      rw [Bool.and_eq_false_iff]
      by_cases hl : r1.length = r2.length
      · left
        rw [hl, Nat.min_self]
        rw [List.all_eq_false]
        apply Decidable.byContradiction
        intro no
        apply h
        refine List.ext_getElem? fun i => ?_
        by_cases hi : i < r2.length
        · apply Decidable.byContradiction
          intro z
          exact no ⟨i, List.mem_range.mpr hi, by simpa using z⟩
        · rw [List.getElem?_eq_none (by omega), List.getElem?_eq_none (by omega)]
      · right
        simpa using hl
end K18
set_option maxHeartbeats 4000000
namespace K18
open PySem PySem.Spec PyProof.Rows L2 GL
/-- what == of rules needs -/
structure UE (P : Program) (w : World) (K : PySem.W.Frag) (mg : Str → Option Value) (base : Heap) : Prop where
  N : NF K mg
  U : UF K mg
  kc : PySem.W.findIn K (.ref (aRu K)) "__class__" = some (some (.builtin "object.__class__"))
  sp : PySem.W.specialIn K (.builtin "object.__class__") "__get__" = some (some (.builtin "getset_descriptor.__get__"))
  tk : PySem.W.takesIn K (.builtin "object.__class__") = some true
  ob : PySem.W.mroIn K (aRu K) (.type "object") = some true
  eq : ∃ f, OwnEq K (aR K) f ∧ FnR P w K mg base CX0 1 f (spREq K)
section
variable {P : Program} {w : World} {K : PySem.W.Frag} {mg : Str → Option Value} {base : Heap}
theorem isi_self {A : Addr} : PySem.W.kitOne K (.ref A) (.ref A) = some true := by unfold PySem.W.kitOne; rw [if_pos (beq_self_eq_true _)]
theorem RuleAt.ty {H : Hp} {s : Addr} {g a : Str} {rows : List (Str × Str × Rat)} {kvs : List (Key × V)} (Z : UE P w K mg base) (h : RuleAt K H s g a rows kvs) : TyX K H (.ref s) (.ref (aRu K)) := by
  obtain ⟨dx, tw, md, e, _⟩ := h
  exact .base (.ins e Z.U.cl Z.kc Z.sp Z.tk Z.ob)
/-- == of rules: what is no rule; rules without moves -/
def spRuleEq (K : PySem.W.Frag) : Sp := fun vs H Q _ => ∃ (s : Addr) (x : V) (g a : Str) (rows : List (Str × Str × Rat)), vs = [.ref s, x] ∧
  ((∃ kvs, RuleAt K H s g a rows kvs ∧ NotA K (aRu K) H x ∧ Q (.bl false) H) ∨
   (RuleAt K H s g a rows [] ∧ ∃ (o : Addr) (g' a' : Str) (rows' : List (Str × Str × Rat)), x = .ref o ∧ RuleAt K H o g' a' rows' [] ∧ ∀ H', Same H H' → Q (.bl (decide (g = g') && (decide (a = a') && decide (rows = rows')))) H'))
theorem scRuleEq : FnScope ["self", "other"] ["self", "other"] (defScope (sRule 7)) := ⟨rfl, rfl, rfl, by decide +kernel, rfl, by decide +kernel, by decide +kernel⟩
theorem ok_ruleEq {f : Addr} {fd : FuncData} (F : FunD K "__eq__" "Rule.__eq__" (defArgs (sRule 7)) (defBody (sRule 7)) (defScope (sRule 7)) [] [] f fd) (Z : UE P w K mg base) : FnOk P w K mg base CX0 4 f fd ["self", "other"] (spRuleEq K) := by
  obtain ⟨fE, oE, GE⟩ := Z.eq
  have T := Z.U
  have N := Z.N
  refine F.ok scRuleEq (fun vs H Q E h => ?_) (fun cdv A outer s H vs Q E hr h => ?_)
  · obtain ⟨s, x, g, a, rows, rfl, _⟩ := h
    rfl
  · obtain ⟨s0, x, g, a, rows, rfl, h⟩ := h
    have hu := hr.units
    have hu1 : (A.deeper (envOfC "Rule.__eq__" (defScope (sRule 7)) s.heap.objs.size f cdv)).units < cLine := by omega
    refine ⟨_, pss_cons (ps_if (pt_not (pt_val (pe_callB call_isi (by rfl) N.isi (by decide +kernel) (pa_cons (pv 1) (pa_cons (pe_glob (v := .ref (aRu K)) rfl T.gU rfl) pa_nil))))) (pss_one (ps_ret pe_bl)) pss_nil)
      (pss_cons (ps_if (PW.pt (pw_or (pt_cmpR op_ne (pe_fld (pv 0) rfl) (pe_fld (pv 1) rfl) (nomark _)) (pw_or1 (pt_cmpR op_ne (pe_fld (pv 0) rfl) (pe_fld (pv 1) rfl) (nomark _))))) (pss_one (ps_ret pe_bl)) pss_nil)
      (pss_one (ps_ret (pe_and (pe_cmpR (op_eqT (monB_tupS monB_th) (eqB_tup monB_th (eqB_th oE GE)) hr) (pe_fld (pv 0) rfl) (pe_fld (pv 1) rfl) (nomark _)) (pe_one (pe_cmpR (op_eq_dict hu1) (pe_fld (pv 0) rfl) (pe_fld (pv 1) rfl) (nomark _))))))), ?_⟩
    rcases h with ⟨kvs, hs, ⟨t, ty, no⟩, k⟩ | ⟨hs, o, g', a', rows', rfl, ho, k⟩
    · exact ⟨_, rfl, x, .ref (aRu K), t, _, false, rfl, .own _, ty, no, false, rfl, iteT k⟩
    · refine ⟨_, rfl, .ref o, .ref (aRu K), .ref (aRu K), _, true, rfl, .own _, ho.ty Z, isi_self, true, rfl, iteF ?_⟩
      obtain ⟨dx, tw, md, es, hw, hm⟩ := hs
      obtain ⟨dx', tw', md', eo, hw', hm'⟩ := ho
      refine ⟨_, rfl, s0, _, dx, _, _, rfl, es, T.cl, T.nG, rfl, _, rfl, o, _, dx', _, _, rfl, eo, T.cl, T.nG, rfl, rfl, _, rfl, ?_⟩
      by_cases hg : g = g'
      · subst hg
        rw [decide_eq_true rfl] at k
        rw [Bool.true_and] at k
        have e : (!decide (V.str g = V.str g)) = false := by simp
        rw [e]
        refine iteF ?_
        refine ⟨_, rfl, s0, _, dx, _, _, rfl, es, T.cl, T.nA, rfl, _, rfl, o, _, dx', _, _, rfl, eo, T.cl, T.nA, rfl, rfl, _, rfl, ?_⟩
        by_cases ha : a = a'
        · subst ha
          rw [decide_eq_true rfl] at k
          rw [Bool.true_and] at k
          have e : (!decide (V.str a = V.str a)) = false := by simp
          rw [e]
          refine iteF ?_
          refine ⟨_, rfl, s0, _, dx, _, _, rfl, es, T.cl, T.nW, rfl, _, rfl, o, _, dx', _, _, rfl, eo, T.cl, T.nW, rfl, _, rows_eqB hw hw', fun H1 s1 => ⟨_, rfl, ?_⟩⟩
          cases hb : decide (rows = rows') with
          | false =>
            rw [hb] at k
            exact iteF (k _ s1)
          | true =>
            rw [hb] at k
            refine iteT ⟨_, rfl, s0, _, dx, _, _, rfl, s1 _ _ es, T.cl, T.nM, rfl, _, rfl, o, _, dx', _, _, rfl, s1 _ _ eo, T.cl, T.nM, rfl, md, md', [], rfl, rfl, s1 _ _ hm, s1 _ _ hm', .nil, (fun p hp => by cases hp), k _ s1⟩
        · rw [decide_eq_false ha] at k
          have e : (!decide (V.str a = V.str a')) = true := by simp [ha]
          rw [e]
          exact iteT (k _ fun _ _ e => e)
      · rw [decide_eq_false hg] at k
        have e : (!decide (V.str g = V.str g')) = true := by simp [hg]
        rw [e]
        exact iteT (k _ fun _ _ e => e)
end
end K18
set_option maxHeartbeats 4000000
/-! def f(self, **parts), called with keywords. -/
namespace GL
open PySem PySem.Spec PyProof.Rows L2 PySem.W StX
section
variable {prog : Program} {w : World}
theorem kwEs_mix : ∀ (ex : List (Str × Value)) (t : Tok), Pairs (mixKind prog w) (kwEs w.params t ex) (ex.map fun x => ((Sum.inr x.1 : Key), x.2))
  | [], _ => Pairs.nil
  | x :: r, t => Pairs.cons (mixKind_str prog w x.1 t) rfl (kwEs_mix r (t + 1))
theorem kw_isDict {ex : List (Str × Value)} (t : Tok) (n : Nat) (hn : (ex.map (·.1)).Nodup) : (dictOf (kwEs w.params t ex) n).IsDictOf (mixKind prog w) (ex.map fun x => ((Sum.inr x.1 : Key), x.2)) :=
  ⟨(kwEs w.params t ex).toArray, n, ⟨rfl, rfl, rfl⟩, rfl, fun e he => by
    obtain ⟨k, u, hk, hh⟩ := kwEs_key ex t e (List.mem_toArray.mp he)
    exact ⟨Sum.inr k, by rw [hk]; exact mixKind_str prog w k u, hh.trans rfl⟩, kwEs_mix ex t, by
    rw [List.map_map]
    have z : (fun x : Str × Value => (Sum.inr x.1 : Key)) = Sum.inr ∘ (·.1) := rfl
    show (ex.map fun x => (Sum.inr x.1 : Key)).Nodup
    rw [z, ← List.map_map]
    exact List.Pairwise.map _ (fun a b h e => h (by injection e)) hn⟩
theorem ns_one {A : Around} {E : Value → Shared → Prop} {s : Shared} {d : Addr} {es : List DictEntry} {n : Nat} {k : Str} {v : Value} {Q : Unit → Shared → Prop} (hd : s.heap.get? d = some (dictOf es n))
    (hs : ∀ e ∈ es, e.key.isStr k = false) (hr : ∀ e ∈ es, e.refKey = false)
    (h : ∀ h', h'.get? d = some (dictOf (es ++ [⟨PyData.keyHash w.params k, .str k s.toks, v⟩]) (n + 1)) → (∀ b, b ≠ d → h'.get? b = s.heap.get? b) → h'.objs.size = s.heap.objs.size → Q () { s with heap := h', toks := s.toks + 1 }) :
    wpAny (model prog w) A (nsSet d k v) Q E s := by
  have e1 : es.any (·.key.isStr k) = false := List.any_eq_false.mpr fun e he => by rw [hs e he]; simp
  have e2 : es.any (·.refKey) = false := List.any_eq_false.mpr fun e he => by rw [hr e he]; simp
  have e : Obj.putName k (PyData.keyHash w.params k) (.str k s.toks) v (dictOf es n) = dictOf (es ++ [⟨PyData.keyHash w.params k, .str k s.toks, v⟩]) (n + 1) := by
    rw [putName_dict, putL_new hs]
    show dictOf _ (if es.any (·.key.isStr k) then n else n + 1) = _
    rw [e1, if_neg Bool.false_ne_true]
  have c : aRefKeyMayBeTheName k es.toArray = false := by
    rw [aRefKeyMayBeTheName_at, ← Array.any_toList, ← Array.any_toList]
    show (!es.any (·.key.isStr k) && es.any (·.refKey)) = false
    rw [e2, Bool.and_false]
  unfold nsSet
  refine wpAny_bind (wpAny_bind (wpAny_askSetting (wpAny_pure (wpAny_bind (wpAny_mkText (wpAny_bind (wpAny_loadPart hd ?_)))))))
  dsimp only
  rw [c]
  refine wpAny_updatePart hd (h _ ?_ (fun b hb => ?_) ?_)
  · refine (Heap.get?_update_self _ hd ?_).trans ?_
    · show (Obj.putName k (PyData.keyHash w.params k) (.str k s.toks) v (dictOf es n)).isFreed = false
      rw [e]
      rfl
    · show some (Obj.putName k (PyData.keyHash w.params k) (.str k s.toks) v (dictOf es n)) = _
      rw [e]
  · exact Heap.get?_update_other _ _ (Ne.symm hb)
  · exact Heap.size_after_update ..
theorem ns_fill {A : Around} {E : Value → Shared → Prop} {d : Addr} {Q : PUnit → Shared → Prop} : ∀ (ex : List (Str × Value)) (s : Shared) (es : List DictEntry) (n : Nat), s.heap.get? d = some (dictOf es n) →
    (∀ e ∈ es, ∀ x ∈ ex, e.key.isStr x.1 = false) → (∀ e ∈ es, e.refKey = false) → (ex.map (·.1)).Nodup →
    (∀ h', h'.get? d = some (dictOf (es ++ kwEs w.params s.toks ex) (n + ex.length)) → (∀ b, b ≠ d → h'.get? b = s.heap.get? b) → h'.objs.size = s.heap.objs.size → Q ⟨⟩ { s with heap := h', toks := s.toks + ex.length }) →
    wpAny (model prog w) A (forIn ex PUnit.unit fun x _ => (nsSet d x.1 x.2 >>= fun _ => pure (ForInStep.yield PUnit.unit))) Q E s
  | [], s, es, n, hd, _, _, _, h => by
    rw [List.forIn_nil]
    refine wpAny_pure (h s.heap ?_ (fun _ _ => rfl) rfl)
    show s.heap.get? d = some (dictOf (es ++ []) n)
    rw [List.append_nil]
    exact hd
  | x :: r, s, es, n, hd, hs, hr, hn, h => by
    obtain ⟨hn1, hn2⟩ := List.nodup_cons.mp (show (x.1 :: r.map (·.1)).Nodup from hn)
    rw [List.forIn_cons]
    refine wpAny_bind (wpAny_bind (ns_one hd (fun e he => hs e he x (.head _)) hr fun h' hd' but sz => wpAny_pure ?_))
    show wpAny (model prog w) A (forIn r PUnit.unit fun x _ => (nsSet d x.1 x.2 >>= fun _ => pure (ForInStep.yield PUnit.unit))) Q E { s with heap := h', toks := s.toks + 1 }
    refine ns_fill r { s with heap := h', toks := s.toks + 1 } _ _ hd' (fun e he y hy => ?_) (fun e he => ?_) hn2 fun h'' hd'' but' sz' => ?_
    · rcases List.mem_append.mp he with he | he
      · exact hs e he y (.tail _ hy)
      · obtain rfl := List.mem_singleton.mp he
        show (x.1 == y.1) = false
        exact beq_eq_false_iff_ne.mpr fun q => hn1 (by rw [q]; exact List.mem_map_of_mem hy)
    · rcases List.mem_append.mp he with he | he
      · exact hr e he
      · obtain rfl := List.mem_singleton.mp he
        rfl
    · have t1 : s.toks + 1 + r.length = s.toks + (r.length + 1) := by omega
      have t2 : n + 1 + r.length = n + (r.length + 1) := by omega
      show Q ⟨⟩ { s with heap := h'', toks := s.toks + 1 + r.length }
      rw [t1]
      refine h h'' ?_ (fun b hb => (but' b hb).trans (but b hb)) (sz'.trans sz)
      rw [t2, List.append_assoc] at hd''
      exact hd''
end
section
variable {CX : CXT} {P : Program} {w : World} {K : PySem.W.Frag} {mg : Str → Option Value} {base : Heap} {k : Nat} {f : Addr} {fd : FuncData} {a pd : Str}
/-- what def f(a, **pd) binds of f(u, k = v, ..) -/
def KwBinds (fd : FuncData) (a pd : Str) : Prop := ∀ (u : Value) (ex : List (Str × Value)), (∀ x ∈ ex, x.1 ≠ a) → ex.length ≤ sizeLine → bindArgs fd ⟨[u], ex⟩ =
  ((alloc ({ cls := .type "dict", data := .dict #[] } : Obj) : Sem Addr) >>= fun d => forIn ex PUnit.unit (fun x _ => (nsSet d x.1 x.2 >>= fun _ => pure (ForInStep.yield PUnit.unit))) >>= fun _ => pure [(a, u), (pd, Value.ref d)])
theorem kv_zip : ∀ {ks : List Str} {vs : List V} {us : List Value}, Vals vs us → ks.length = us.length → KV ((ks.map (Sum.inr : Str → Key)).zip vs) ((ks.zip us).map fun x => ((Sum.inr x.1 : Key), x.2))
  | [], _, _, _, _ => by
    simp only [List.map_nil, List.zip_nil_left]
    exact .nil
  | _ :: _, [], [], _, l => by cases l
  | _ :: _, _ :: _, _ :: _, .cons r rs, l => by
    simp only [List.map_cons, List.zip_cons_cons]
    exact .cons ⟨rfl, r⟩ (kv_zip rs (by simpa using l))
/-- the state behind one new object -/
theorem env0_new {A : Around} {outer : List Env} {s : Shared} {H : Hp} {u : HO} {h' : Heap} {t : Nat} (e0 : Env0 P w K mg base A outer s H) (kp : ∀ b o, s.heap.get? b = some o → h'.get? b = some o) (sz : s.heap.objs.size ≤ h'.objs.size) (new : ObjOk P w (upd H s.heap.objs.size u) h' s.heap.objs.size u) :
    Env0 P w K mg base A outer { s with heap := h', toks := t } (upd H s.heap.objs.size u) := by
  refine ⟨e0.frames, e0.mod, fun b o z => ?_, Nat.le_trans e0.bsz sz, ?_, fun b hb => ?_, ?_, e0.bare⟩
  · obtain ⟨z1, z2⟩ := e0.bs b o z
    exact ⟨kp b o z1, by rw [upd_ne (Nat.ne_of_lt (Heap.lt_size z1))]; exact z2⟩
  · exact Heap.FunFrames.of_keeps (fun b o z _ => ⟨o, kp b o z, rfl⟩) e0.funs
  · have z := e0.frf b hb
    obtain ⟨_, o, z1, _⟩ := e0.funs.mem hb
    rw [upd_ne (Nat.ne_of_lt (Heap.lt_size z1))]
    exact z
  · exact e0.hok.laid (P := P) (w := w) kp (Nat.le_refl _) new
/-- the dict of what is given by keywords is new -/
theorem kw_bnd {A : Around} {outer : List Env} {s : Shared} {H : Hp} {E : XK} {u : Value} {v : V} {ex : List (Str × Value)} {vs : List V} {us : List Value} {ks : List Str} (hCX : CXUp CX) (hb : KwBinds fd a pd) (e0 : Env0 P w K mg base A outer s H) (ru : RelV v u) (eex : ex = ks.zip us) (r : Vals vs us) (l : ks.length = us.length)
    (nd : ks.Nodup) (na : a ∉ ks) (small : ks.length ≤ sizeLine) :
    Bnd CX P w K mg base fd ⟨[u], ex⟩ [a, pd] A outer s H E (fun xs H2 => ∃ d, H d = none ∧ xs = [v, .ref d] ∧ H2 = upd H d (.dK ((ks.map Sum.inr).zip vs))) := by
  intro A' Ex Q h
  have hk : ex.map (·.1) = ks := by
    rw [eex]
    exact List.map_fst_zip (by rw [l]; exact Nat.le_refl _)
  have len : ex.length = ks.length := by rw [← hk, List.length_map]
  rw [hb u ex (fun x hx z => na (by rw [← hk, ← z]; exact List.mem_map_of_mem hx)) (by rw [len]; exact small)]
  refine wpAny_bind (wpAny_alloc (wpAny_bind ?_))
  refine ns_fill ex _ [] 0 (Heap.get?_push_size _ rfl) (fun _ he => nomatch he) (fun _ he => nomatch he) (by rw [hk]; exact nd) fun h' hd but sz => wpAny_pure ?_
  have fresh : H s.heap.objs.size = none := e0.hok.fresh (Nat.le_refl _)
  have kp : ∀ b o, s.heap.get? b = some o → h'.get? b = some o := fun b o e => (but b (Nat.ne_of_lt (Heap.lt_size e))).trans (Heap.get?_push_of_some _ e)
  have kvl : ((ks.map (Sum.inr : Str → Key)).zip vs).length ≤ sizeLine := by
    rw [List.length_zip, List.length_map]
    omega
  have new : ObjOk P w (upd H s.heap.objs.size (.dK ((ks.map Sum.inr).zip vs))) h' s.heap.objs.size (.dK ((ks.map Sum.inr).zip vs)) :=
    ⟨kvl, beq_eq_false_iff_ne.mpr (Ne.symm (Nat.ne_of_lt (env0_big e0))), _, by rw [eex] at hd; exact kv_zip r l, Heap.dictOf_iff.mpr ⟨_, hd, by rw [← eex]; exact kw_isDict _ _ (by rw [hk]; exact nd)⟩⟩
  have un : Un (frs outer) [] H (upd H s.heap.objs.size (.dK ((ks.map Sum.inr).zip vs))) s.heap h' := Un.laid kp (Nat.le_refl _) fresh
  exact h { s with heap := h', toks := s.toks + ex.length } _ [v, .ref s.heap.objs.size] [u, .ref s.heap.objs.size] (env0_new e0 kp (by rw [sz, Heap.size_push]; exact Nat.le_succ _) new) un rfl (fun e s' => hCX outer s H _ _ E e s' un kp rfl) (.cons ru (.cons rfl .nil)) rfl ⟨_, fresh, rfl, rfl⟩
end
end GL
set_option maxHeartbeats 4000000
/-! A method with **parts: its promise, its call o.m(k = v, ..). -/
namespace GL
open PySem PySem.Spec PyProof.Rows L2 StX
/-- what such a method promises: self, the keywords' names, their values -/
abbrev SpK := V → List Str → List V → Hp → VK → XK → Prop
def FnK (P : Program) (w : World) (K : PySem.W.Frag) (mg : Str → Option Value) (base : Heap) (CX : CXT) (k : Nat) (f : Addr) (a : Str) (sp : SpK) : Prop :=
  ∀ (A : Around) (outer : List Env) (s : Shared) (H : Hp) (u : Value) (v : V) (ks : List Str) (us : List Value) (vs : List V) (Q : VK) (E : XK), Room k A → Env0 P w K mg base A outer s H → RelV v u → Vals vs us → vs.length = ks.length → ks.Nodup → a ∉ ks → ks.length ≤ sizeLine →
    sp v ks vs H Q E → codeAny (model P w) A (.call (.ref f) ⟨[u], ks.zip us⟩) (CR CX outer P w H s Q E) s
section
variable {P : Program} {w : World} {K : PySem.W.Frag} {mg : Str → Option Value} {base : Heap}
theorem okK {CX : CXT} {k : Nat} {f : Addr} {x qual a pd : Str} {params : Arguments} {body : List Stmt} {scope : Scope} {fd : FuncData} {N : List Str} {sp : SpK} (F : FunD K x qual params body scope [] [] f fd) (S : FnScope N [a, pd] scope) (hCX : CXUp CX) (hb : KwBinds fd a pd)
    (hbody : ∀ (cdv : Value) (A : Around) (outer : List Env) (s : Shared) (H : Hp) (v : V) (ks : List Str) (vs : List V) (Q : VK) (E : XK) (d : Addr), Room k (A.deeper (envOfC qual scope s.heap.objs.size f cdv)) → H d = none → vs.length = ks.length → ks.Nodup → sp v ks vs H Q E →
      ∃ t, PSs (cxOf CX P w K mg base N qual scope f cdv A outer s (upd H d (.dK ((ks.map Sum.inr).zip vs))) E) body t ∧ t { nx := fun _ H' => Q .non H', rt := Q } (start N [v, .ref d]) (upd H d (.dK ((ks.map Sum.inr).zip vs)))) :
    FnK P w K mg base CX (k + 1) f a sp := by
  intro A outer s H u v ks us vs Q E hr e0 ru rv lv nd na small hsp
  obtain ⟨oc, od, dV, kV, doc, pm, an, cdv, ct, osl, rfl, lk, hcd, _, _⟩ := F.ex
  have l : ks.length = us.length := by rw [← lv]; exact Paired.length rv
  refine run_bnd lk hcd S hr e0 (kw_bnd hCX hb e0 ru rfl rv l nd na small) fun s2 H2 xs g hr' => ?_
  obtain ⟨d, hd, rfl, rfl⟩ := g
  exact hbody cdv A outer s2 H v ks vs Q E d hr' hd lv nd hsp
end
section
variable {X : Cx} {CX : CXT} {E : XK} {k : Nat} {sp : SpK} {C f : Addr} {ks : List Str} {kws : List Keyword} {tk : TA} {ta : TE} {o : Expr} {m a : Str} {pos apos : Pos} {pl : Sem Bool}
/-- o.m(k = v, ..), m(self, **parts) -/
theorem pe_methK (he : PE X o ta) (c : Cls X.K C) (hm : Meth X.K C m f) (F : FnK X.prog X.w X.K X.mg X.base CX k f a sp) (hr : Room k X.A) (hx : Passes CX X E) (hkw : PK X kws tk) (nd : ks.Nodup) (na : a ∉ ks) (small : ks.length ≤ sizeLine)
    (hall : (backToKw pos (keywordEach kws X.env)).all (·.1.isSome) = true := by rfl) (hks : (backToKw pos (keywordEach kws X.env)).filterMap (·.1) = ks := by rfl)
    (hpl : ((backTo pos (starEach [] X.env)).any (·.1) || (backToKw pos (keywordEach kws X.env)).any (·.1.isNone)) = false := by rfl)
    (ht : eval (.Call (.Attribute o m apos) [] kws pos) X.env = (do let ov ← eval o X.env; standAt apos.atName; let (f, first) ← holding [ov] (getMethod ov m pl); callWith pos f first (backTo pos (starEach [] X.env)) (backToKw pos (keywordEach kws X.env))) := by rfl) :
    PE X (.Call (.Attribute o m apos) [] kws pos) (fun σ H Q => ta σ H fun x H1 => ∃ a dx fs, x = .ref a ∧ H1 a = some (.ins C dx fs) ∧ fs.lookup m = none ∧ tk σ H1 fun zs H2 => zs.length = ks.length ∧ sp x ks zs H2 Q E) := by
  constructor
  intro pins s σ H Q I h
  refine PySem.W.methodCall_KW (thn (he.run pins s σ H _ I h) ?_) ht
  rintro u s1 ⟨x, H1, I1, rx, a, dx, fs, rfl, ea, l, q⟩
  cases (show u = Value.ref a from rx)
  refine getmeth_ok I1 ea c hm l ?_
  refine PySem.W.callWith_KW0 (h₀ := X.base) I.ok.mod.kin hm.kp hall ?_ hpl
  refine thn (hkw.run pos pins s1 σ H1 _ I1 q) ?_
  rintro ws s2 ⟨zs, H2, I2, rz, l2, q⟩
  refine ⟨I2.kIn, ?_⟩
  rw [hks]
  refine wpAny_call (codeAny_mono (F X.A X.stack s2 H2 (.ref a) (.ref a) ks ws zs Q E hr I2.env0 rfl rz l2 nd na small q) fun r' s' z => ?_)
  match r', z with
  | .error er, z => exact hx pins σ H2 s2 er s' I2 z
  | .ok .next, z => exact False.elim z
  | .ok .brk, z => exact False.elim z
  | .ok .cont, z => exact False.elim z
  | .ok (.ret u), z => exact I2.after z
end
end GL
set_option maxHeartbeats 4000000
namespace K18
open PySem PySem.Spec PyProof.Rows L2 GL StX
theorem forIn_ext {A B : Type} {fn : B → A × List B → Sem (ForInStep (A × List B))} : ∀ (r : List B) (a : A) (extra : List B), (∀ x ∈ r, ∀ s, fn x s = pure (.yield (s.1, s.2 ++ [x]))) → forIn r (a, extra) fn = pure (a, extra ++ r)
  | [], a, extra, _ => by
    rw [List.forIn_nil, List.append_nil]
  | x :: r, a, extra, h => by
    rw [List.forIn_cons, h x List.mem_cons_self]
    show forIn r (a, extra ++ [x]) fn = _
    rw [forIn_ext r a (extra ++ [x]) fun y hy => h y (List.mem_cons_of_mem _ hy), List.append_assoc]
    rfl
theorem pure_then {α β : Type} (a : α) (f : α → Sem β) : (pure a >>= f) = f a := rfl
theorem changed_kw {K : PySem.W.Frag} {f : Addr} {fd : FuncData} (F : FunD K "changed" "Rule.changed" (defArgs (sRule 6)) (defBody (sRule 6)) (defScope (sRule 6)) [] [] f fd) : KwBinds fd "self" "parts" := by
  obtain ⟨oc, od, dV, kV, doc, pm, an, cdv, ct, osl, rfl, lk, hcd, hD, hK⟩ := F.ex
  rcases hD with ⟨_, rfl⟩ | ⟨e, _⟩
  · intro u ex na small
    have ea : defArgs (sRule 6) = { posonlyargs := [], args := (defArgs (sRule 6)).args, vararg := none, kwonlyargs := [], kw_defaults := [], kwarg := (defArgs (sRule 6)).kwarg, defaults := [] } := by rfl
    have e1 : (defArgs (sRule 6)).posonlyargs.map (·.arg) = ([] : List Str) := by rfl
    have e2 : (defArgs (sRule 6)).args.map (·.arg) = [("self" : Str)] := by rfl
    have e3 : (defArgs (sRule 6)).kwonlyargs.map (·.arg) = ([] : List Str) := by rfl
    have e4 : (defArgs (sRule 6)).vararg = none := by rfl
    have e5 : ∃ ag, (defArgs (sRule 6)).kwarg = some ag ∧ ag.arg = ("parts" : Str) := ⟨_, by rfl, by rfl⟩
    obtain ⟨ag, e5, e6⟩ := e5
    unfold bindArgs PySem.W.fnOf
    dsimp only
    rw [e1, e2, e3, e4, e5]
    simp only [List.nil_append, List.length_cons, List.length_nil, List.zip_cons_cons, List.zip_nil_right, Option.isSome_some, if_true]
    rw [forIn_ext ex [(("self" : Str), u)] [] fun x hx s => ?_]
    · rw [pure_then]
      have sm : ¬ ex.length > sizeLine + 1 := by omega
      have sq : seqItems? Value.none = pure none := rfl
      rw [sq, pure_then]
      simp only [List.nil_append, if_neg sm]
      rw [e6]
      rfl
    · have n1 : ([("self" : Str)].contains x.1 || ([] : List Str).contains x.1) = false := by
        have z := na x hx
        simp [z]
      rw [n1]
      rfl
  · exact absurd rfl e
end K18
set_option maxHeartbeats 4000000
namespace K18
open PySem PySem.Spec PyProof.Rows L2 GL StX
def partsL : List Str := ["goal", "answer", "when", "moves"]
section
variable {P : Program} {w : World} {K : PySem.W.Frag} {mg : Str → Option Value} {base : Heap}
structure CH (P : Program) (w : World) (K : PySem.W.Frag) (mg : Str → Option Value) (base : Heap) : Prop where
  R : RU P w K mg base
  parts : ∃ a, mg "PARTS" = some (.ref a) ∧ ∀ H, SqT K H a (partsL.map V.str)
  mU : ∃ f fd gU, Mk K (aRu K) f ∧ FnOk P w K mg base (L2.CX P w) 5 f fd ["self", "goal", "answer", "when", "moves"] (spRuleI K) ∧ KBn K fd ["self", "goal", "answer", "when", "moves"] 3 ["when", "moves"] gU (fun vs zs => vs ++ zs)
abbrev nChanged : List Str := ["self", "parts", "name", "goal", "answer"]
theorem scChanged : FnScope nChanged ["self", "parts"] (defScope (sRule 6)) := ⟨rfl, rfl, rfl, by decide +kernel, rfl, by decide +kernel, by decide +kernel⟩
/-- what Rule.changed does -/
def known (u : Str) : Bool := inV (.str u) (partsL.map V.str)
def pick (ks : List Str) (vs : List V) (k : Str) (z : V) : V := (valV ((ks.map (Sum.inr : Str → Key)).zip vs) (Sum.inr k)).getD z
def spChanged (K : PySem.W.Frag) : SpK := fun v ks vs H Q E => ∃ (s dx : Addr) (g0 a0 w0 m0 : V), v = .ref s ∧ H s = some (.ins (aRu K) dx [("_goal", g0), ("_answer", a0), ("_when", w0), ("_moves", m0)]) ∧ ks.length < 64 ∧
  ((∀ ys : List Str, ys.Perm ks → sortedS ys = true → ∃ (j : Nat) (u : Str), ys[j]? = some u ∧ known u = false ∧ (∀ (i : Nat) (u' : Str), i < j → ys[i]? = some u' → known u' = true) ∧ outW (aIA K) [("value", .str u)] H E) ∨
   ((∀ u ∈ ks, known u = true) ∧ ∀ H2 x dx', Same H H2 → H2 x = none → H2 dx' = none → dx' ≠ x → spRuleI K [.ref x, pick ks vs "goal" g0, pick ks vs "answer" a0, pick ks vs "when" w0, pick ks vs "moves" m0] (upd (upd H2 dx' (.own x)) x (.ins (aRu K) dx' [])) (fun v H3 => v = .non ∧ Q (.ref x) H3) E))
theorem ok_changed {f : Addr} {fd : FuncData} (F : FunD K "changed" "Rule.changed" (defArgs (sRule 6)) (defBody (sRule 6)) (defScope (sRule 6)) [] [] f fd) (Z : CH P w K mg base) : FnK P w K mg base (L2.CX P w) 7 f "self" (spChanged K) := by
  obtain ⟨fU, fdU, gU, MU, GU, KU⟩ := Z.mU
  obtain ⟨aP, gP, hP⟩ := Z.parts
  obtain ⟨fA, fdA, a1, a2, GA_, bA⟩ := Z.R.Z.mA
  have T := Z.R.U
  have N := Z.R.N
  refine okK F scChanged cxUp (changed_kw F) fun cdv A outer s H v ks vs Q E d hr hd lv nd h => ?_
  have r2 : Room 2 _ := hr.mono (by decide)
  have hu := hr.units
  have hu1 : (A.deeper (envOfC "Rule.changed" (defScope (sRule 6)) s.heap.objs.size f cdv)).units + 1 < cLine := by omega
  have main : ∃ t, PSs (cxOf (L2.CX P w) P w K mg base nChanged "Rule.changed" (defScope (sRule 6)) f cdv A outer s (upd H d (.dK ((ks.map Sum.inr).zip vs))) E) (defBody (sRule 6)) t ∧ t { nx := fun _ H' => Q .non H', rt := Q } (start nChanged [v, .ref d]) (upd H d (.dK ((ks.map Sum.inr).zip vs))) := by
    refine ⟨_, pss_cons (ps_for (passes_of rfl) rfl (pi_list (pe_callB (call_sortedD rfl) (by rfl) Z.R.srt (by decide +kernel) (pa_cons (pv 1) pa_nil))) (pg_name (i := 2) scChanged.nd rfl (.inl rfl))
        (pss_one (ps_if (pt_cmpR op_notIn_seq (pv 2) (pe_glob (v := .ref aP) rfl gP rfl) (by with_unfolding_all rfl)) (pss_one (ps_raise rfl (takes_of rfl rfl rfl rfl) (pmk_x Z.R.Z.xA a1 a2 GA_ r2 bA rfl Z.R.Z.gA (pa_cons (pv 2) pa_nil)))) pss_nil)))
      (pss_cons (ps_par (i := 3) (j := 4) (by rfl) scChanged.nd rfl rfl (by decide) rfl rfl (pa_cons (pe_dget2 hu1 (pv 1) pe_str (pe_fld (pv 0) rfl) ⟨rfl, rfl, rfl, rfl⟩) (pa_cons (pe_dget2 hu1 (pv 1) pe_str (pe_fld (pv 0) rfl) ⟨rfl, rfl, rfl, rfl⟩) pa_nil)) (by rfl))
      (pss_one (ps_ret (pe_makeK MU GU hr rfl T.gU KU (passE (takes_of rfl rfl rfl rfl)) (pa_cons (pv 3) (pa_cons (pv 4) pa_nil))
        (pk_cons (pe_dget2 hu1 (pv 1) pe_str (pe_fld (pv 0) rfl) ⟨rfl, rfl, rfl, rfl⟩) (pk_cons (pe_dget2 hu1 (pv 1) pe_str (pe_fld (pv 0) rfl) ⟨rfl, rfl, rfl, rfl⟩) pk_nil)))))), ?_⟩
    obtain ⟨s0, dx, g0, a0, w0, m0, rfl, es, l64, h⟩ := h
    have ud := same_new (o := .dK ((ks.map Sum.inr).zip vs)) hd
    have hdd : upd H d (.dK ((ks.map Sum.inr).zip vs)) d = some (.dK ((ks.map Sum.inr).zip vs)) := upd_same
    generalize upd H d (.dK ((ks.map Sum.inr).zip vs)) = H1 at *
    have ek : ((ks.map (Sum.inr : Str → Key)).zip vs).map (·.1) = ks.map Sum.inr := List.map_fst_zip (by rw [List.length_map, lv]; exact Nat.le_refl _)
    refine ⟨_, rfl, d, _, ks, rfl, .of hdd, ek, l64, fun ys l pm so nl => ?_⟩
    have ul := same_new (o := .lst (ys.map V.str)) nl
    have hl : upd H1 l (.lst (ys.map V.str)) l = some (.lst (ys.map V.str)) := upd_same
    generalize upd H1 l (.lst (ys.map V.str)) = H2 at *
    have s12 := ud.trans ul
    refine ⟨l, rfl, ⟨_, SqL.of hl⟩, ?_⟩
    have fl : (partsL.map V.str).all flatV = true := by decide
    rcases h with h | ⟨all, k⟩
    · obtain ⟨j, u, hj, bad, bef, out⟩ := h ys pm so
      refine for_it walk_list (fun i z G => i ≤ j ∧ Same H2 G ∧ ∃ v2, z = [some (.ref s0), some (.ref d), v2, none, none]) ⟨Nat.zero_le _, fun _ _ e => e, none, rfl⟩ (fun i z G _ h => L2.SqL.ext (SqL.of hl) h.2.1) ?_ ?_
      · rintro i y z G G' hi ⟨le, sG, v2, rfl⟩ ⟨rfl, e2⟩
        rw [List.getElem?_map] at e2
        obtain ⟨u', hu2, rfl⟩ := Option.map_eq_some_iff.mp e2
        rcases Nat.lt_or_eq_of_le le with lt | rfl
        · have kn := bef i u' lt hu2
          refine ⟨_, rfl, aP, _, rfl, .inr (hP _), rfl, fl, _, rfl, ?_⟩
          rw [show inV (.str u') (partsL.map V.str) = true from kn]
          exact iteF ⟨lt, sG, _, rfl⟩
        · obtain rfl : u = u' := Option.some.inj (hj.symm.trans hu2)
          refine ⟨_, rfl, aP, _, rfl, .inr (hP _), rfl, fl, _, rfl, ?_⟩
          rw [show inV (.str u) (partsL.map V.str) = false from bad]
          exact iteT ⟨_, rfl, rfl, by show 1 ≤ 1000; decide, fun d H2 k2 n2 e3 => (out.same (s12.trans sG)) d H2 k2 n2 e3⟩
      · rintro z G ⟨le, _⟩
        rw [List.length_map] at le
        exact absurd (List.getElem?_eq_some_iff.mp hj).1 (Nat.not_lt.mpr le)
    · refine for_it walk_list (fun i z G => Same H2 G ∧ ∃ v2, z = [some (.ref s0), some (.ref d), v2, none, none]) ⟨fun _ _ e => e, none, rfl⟩ (fun i z G _ h => L2.SqL.ext (SqL.of hl) h.1) ?_ ?_
      · rintro i y z G G' hi ⟨sG, v2, rfl⟩ ⟨rfl, e2⟩
        rw [List.getElem?_map] at e2
        obtain ⟨u', hu2, rfl⟩ := Option.map_eq_some_iff.mp e2
        have kn := all u' (pm.mem_iff.mp (List.mem_of_getElem? hu2))
        refine ⟨_, rfl, aP, _, rfl, .inr (hP _), rfl, fl, _, rfl, ?_⟩
        rw [show inV (.str u') (partsL.map V.str) = true from kn]
        exact iteF ⟨sG, _, rfl⟩
      · rintro z G ⟨sG, v2, rfl⟩
        have sH := s12.trans sG
        have esG := sH _ _ es
        have hdG := (ul.trans sG) _ _ hdd
        refine ⟨_, rfl, d, rfl, .inl ⟨_, .of hdG⟩, _, rfl, s0, _, dx, _, _, rfl, esG, T.cl, T.nG, rfl, _, .inl ⟨_, .inr "goal", .of hdG, rfl, rfl⟩, ?_⟩
        refine ⟨_, rfl, d, rfl, .inl ⟨_, .of hdG⟩, _, rfl, s0, _, dx, _, _, rfl, esG, T.cl, T.nA, rfl, _, .inl ⟨_, .inr "answer", .of hdG, rfl, rfl⟩, ?_⟩
        refine ⟨_, _, rfl, ?_⟩
        refine ⟨_, rfl, _, rfl, ?_⟩
        refine ⟨_, rfl, d, rfl, .inl ⟨_, .of hdG⟩, _, rfl, s0, _, dx, _, _, rfl, esG, T.cl, T.nW, rfl, _, .inl ⟨_, .inr "when", .of hdG, rfl, rfl⟩, ?_⟩
        refine ⟨_, rfl, d, rfl, .inl ⟨_, .of hdG⟩, _, rfl, s0, _, dx, _, _, rfl, esG, T.cl, T.nM, rfl, _, .inl ⟨_, .inr "moves", .of hdG, rfl, rfl⟩, ?_⟩
        exact ⟨rfl, rfl, fun x dx' hx hd' ne => k G x dx' sH hx hd' ne⟩
  exact main
end
end K18
set_option maxHeartbeats 4000000
/-! xs[::-1] of a list. -/
namespace GL
open PySem PySem.Spec PyProof.Rows L2
/-- a new list, the other way round -/
def tRev (K : PySem.W.Frag) (te : TE) (tk : TO) : TE := fun z H Q => te z H fun x H1 => tk z H1 fun k H2 => k = some (-1) ∧ ∃ a xs, x = .ref a ∧ SqL K H2 a xs ∧ ∀ p, H2 p = none → Q (.ref p) (upd H2 p (.lst xs.reverse))
theorem pe_rev {X : Cx} {e st : Expr} {te : TE} {tk : TO} {pos p2 : Pos} (he : PE X e te) (hk : PO X (some st) tk)
    (hs : ∀ a l : Addr, subscripted (.Slice none none (some st) p2) false (.ref a) (.ref l) = operate [.ref a, .ref l] (getItem (.ref a) (.ref l)) := by intros; with_unfolding_all rfl) : PE X (.Subscript e (.Slice none none (some st) p2) pos) (tRev X.K te tk) := by
  constructor
  intro pins s z H Q I h
  apply Subscript_
  refine thn (he.run pins s z H _ I h) ?_
  rintro v s1 ⟨x, H1, I1, r1, q1⟩
  apply wpAny_Slice
  rw [evalPart_none]
  apply wpAny_pure
  apply wpAny_pure
  refine thn (hk.run pins s1 z H1 _ I1 q1) ?_
  rintro vk s2 ⟨k, H2, I2, pk, rfl, a, xs, rfl, hx, q⟩
  cases (show v = Value.ref a from r1)
  have I3 : Inv X pins z H2 { s2 with heap := s2.heap.push { cls := .type "slice", data := .fields #[.none, .none, vk] } } := I2.kept (t' := s2.toks) fun b o y => Heap.get?_push_of_some _ y
  obtain ⟨its, r, ht, hz⟩ := I3.list hx
  have hlen := r.length
  show wpAny (model X.prog X.w) X.A (subscriptTail e (.Slice none none (some st) p2) (.ref a) (.ref s2.heap.objs.size)) (EP X pins z Q) X.xe { s2 with heap := s2.heap.push { cls := .type "slice", data := .fields #[.none, .none, vk] } }
  refine tail_any (ops := [.ref a, .ref s2.heap.objs.size]) ht.isList.typeIs slot_list_getitem.lookup ?_ (hs _ _)
  refine wpAny_getItem_list_slice ht.isList (Heap.IsSliceOf.new ..) .none .none pk (by decide) ?_ (by rw [List.size_toArray]; omega)
  rw [PySem.W.krv_pick]
  refine ⟨.ref _, _, I3.laid (t' := s2.toks) (o := .lst xs.reverse) (fun b o y => Heap.get?_push_of_some _ y) (Nat.le_refl _) ?_, rfl, q _ (I3.hok.fresh (Nat.le_refl _))⟩
  refine ⟨by rw [List.length_reverse]; omega, its.reverse, 0, paired_rev r, Heap.get?_push_size _ rfl⟩
/-! ### a statement, its end told once for all its ways -/
def tCut (t u : TS) : TS := fun D z H => ∃ Mid : L2.St → Hp → Prop, t { D with nx := Mid } z H ∧ ∀ z' H', Mid z' H' → u D z' H'
theorem pss_cut {X : Cx} {st : Stmt} {rest : List Stmt} {t u : TS} (one : PS X st t) (more : PSs X rest u) : PSs X (st :: rest) (tCut t u) := by
  constructor
  intro pins s z H D I ⟨Mid, first, go⟩
  apply wpAny_execs_cons
  refine thn (one.run pins s z H { D with nx := Mid } I first) ?_
  intro f s1 q
  match f, q with
  | .ret v, q => exact q
  | .brk, q => exact q
  | .cont, q => exact q
  | .next, ⟨z', H', J, m⟩ => exact more.run pins s1 z' H' D J (go z' H' m)
end GL
set_option maxHeartbeats 4000000
namespace K18
open PySem PySem.Spec PyProof.Rows L2 GL
abbrev sRng : Stmt := tp 37
abbrev sDraw : Stmt := tp 38
abbrev sChoice : Stmt := tp 39
/-- names of Python's own that the module leaves alone -/
structure Free (mg : Str → Option Value) : Prop where
  len : mg "len" = none
  abs : mg "abs" = none
  max : mg "max" = none
  min : mg "min" = none
  int : mg "int" = none
  divmod : mg "divmod" = none
  range : mg "range" = none
  all : mg "all" = none
  str : mg "str" = none
  list : mg "list" = none
  repr : mg "repr" = none
  any : mg "any" = none
/-- the state of a drawing: a list of two numbers -/
def Rng (H : Hp) (p : Addr) : Prop := ∃ x y : Int, H p = some (.lst [.int x, .int y]) ∧ 0 ≤ y ∧ y < 2 ^ 40
def spRng (K : PySem.W.Frag) : Sp := fun vs H Q _ => ∃ (a : Addr) (ns : List Int) (i : Int), vs = [.ref a, .int i] ∧ SqL K H a (ns.map V.int) ∧ 0 ≤ i ∧ i < 100 ∧
  ∀ p H', H p = none → Same H H' → Rng H' p → Q (.ref p) H'
section
variable {P : Program} {w : World} {K : PySem.W.Frag} {mg : Str → Option Value} {base : Heap}
theorem scRng : FnScope ["_law_script", "_law_index", "_law_cell"] ["_law_script", "_law_index"] (defScope sRng) := ⟨rfl, rfl, rfl, by decide +kernel, rfl, by decide +kernel, by decide +kernel⟩
theorem fm_bd (a : Int) {b : Int} (hb : 0 < b) : 0 ≤ a.fmod b ∧ a.fmod b < b := by
  rw [Int.fmod_eq_emod_of_nonneg _ (by omega)]
  exact ⟨Int.emod_nonneg _ (by omega), Int.emod_lt_of_pos _ hb⟩
theorem ok_rng {f : Addr} {fd : FuncData} (F : Fun K "_law_pot" "_law_pot" sRng f fd) (T : Free mg) : FnOk P w K mg base CX0 1 f fd ["_law_script", "_law_index"] (spRng K) := by
  refine F.ok scRng (fun vs H Q E h => ?_) (fun cdv A outer s H vs Q E hr h => ?_)
  · obtain ⟨a, ns, i, rfl, _⟩ := h
    rfl
  · obtain ⟨a, ns, i, rfl, hS, i0, i1, k⟩ := h
    refine ⟨_, pss_cons (ps_set (i := 2) scRng.nd rfl (Or.inl rfl)
        (pe_ifExp (pt_cmpR op_lt (pv 1) (pe_callB call_len_seq (by rfl) T.len PySem.boot_len (pa_cons (pv 0) pa_nil)) (nomark _))
          (pe_callB call_abs (by rfl) T.abs (by decide +kernel) (pa_cons (pe_ix ix_list (pv 0) (pv 1) (fun _ _ => rfl)) pa_nil))
          (pe_op op_add (pe_op op_mul pe_int (pv 1)) pe_int)))
      (pss_one (ps_ret (pe_lst (pa_cons (pe_callB (call_max2 rfl) (by rfl) T.max (by decide +kernel) (pa_cons pe_int (pa_cons (pe_op op_sub (pv 2) (pe_op op_pow pe_int pe_int)) pa_nil)))
        (pa_cons (pe_op op_modN (pe_callTy call_int1 (by rfl) T.int (by decide +kernel) (pa_cons
          (pe_op op_add (pe_op op_add (pe_op op_mul (pe_op op_modN (pe_callTy call_int1 (by rfl) T.int (by decide +kernel) (pa_cons (pv 2) pa_nil)) pe_int) pe_int) (pe_op op_mul pe_int (pv 1))) pe_int) pa_nil)) pe_int) pa_nil))))), ?_⟩
    refine ⟨_, rfl, _, rfl, _, _, rfl, .inl hS, _, _, rfl, rfl, _, rfl, ?_⟩
    refine ite2 (fun c => ?_) (fun c => ?_)
    · have c' : i < ((ns.map V.int).length : Int) := of_decide_eq_true c
      obtain ⟨j, rfl⟩ : ∃ j : Nat, i = (j : Int) := ⟨i.toNat, by omega⟩
      have hj : j < ns.length := by rw [List.length_map] at c'; omega
      refine ⟨_, rfl, _, rfl, a, _, _, V.int ns[j], rfl, rfl, hS, atI_nat (by rw [List.getElem?_map, List.getElem?_eq_getElem hj]; rfl), _, rfl, ?_⟩
      generalize (if ns[j] < 0 then -ns[j] else ns[j]) = c
      (refine ⟨_, rfl, _, _, rfl, rfl, ⟨by decide, by decide, by decide⟩, _, _, rfl, rfl, _, _, rfl, _, rfl, .inl ⟨_, rfl, _, _, rfl, rfl, (by show (2147483563 : Int) ≠ 0; decide), _, _, rfl, rfl, .inr ⟨by decide, by decide⟩,
        _, rfl, _, _, rfl, rfl, .inl ⟨by decide, by decide⟩, _, _, rfl, rfl, _, _, rfl, rfl, .inl ⟨_, rfl, _, _, rfl, rfl, (by show (2147483647 : Int) ≠ 0; decide), by show 2 ≤ sizeLine; decide, fun p hp => ?_⟩⟩⟩
       refine k p _ hp (fun b o e => by rw [upd_ne (ne_of_none e hp)]; exact e) ⟨_, _, upd_same, ?_⟩
       have q := fm_bd (c.fmod 2147483563 * 40014 + 50021 * (j : Int) + 37) (b := 2147483647) (by decide)
       exact ⟨by omega, by omega⟩)
    · refine ⟨_, rfl, _, _, rfl, rfl, .inl ⟨by decide, by decide⟩, _, _, rfl, rfl, ?_⟩
      (refine ⟨_, rfl, _, _, rfl, rfl, ⟨by decide, by decide, by decide⟩, _, _, rfl, rfl, _, _, rfl, _, rfl, .inl ⟨_, rfl, _, _, rfl, rfl, (by show (2147483563 : Int) ≠ 0; decide), _, _, rfl, rfl, .inr ⟨by decide, by decide⟩,
        _, rfl, _, _, rfl, rfl, .inl ⟨by decide, by decide⟩, _, _, rfl, rfl, _, _, rfl, rfl, .inl ⟨_, rfl, _, _, rfl, rfl, (by show (2147483647 : Int) ≠ 0; decide), by show 2 ≤ sizeLine; decide, fun p hp => ?_⟩⟩⟩
       refine k p _ hp (fun b o e => by rw [upd_ne (ne_of_none e hp)]; exact e) ⟨_, _, upd_same, ?_⟩
       have q := fm_bd ((9 * i + 4).fmod 2147483563 * 40014 + 50021 * i + 37) (b := 2147483647) (by decide)
       exact ⟨by omega, by omega⟩)
/-! ### a number drawn -/
def spDraw : Sp := fun vs H Q _ => ∃ (p : Addr) (m : Int), vs = [.ref p, .int m] ∧ Rng H p ∧ 0 < m ∧ m < 1000000000 ∧
  ∀ d H', 0 ≤ d → d < m → (∀ b o, H b = some o → b ≠ p → H' b = some o) → Rng H' p → Q (.int d) H'
theorem scDraw : FnScope ["_law_pot_here", "_law_many", "_law_digit"] ["_law_pot_here", "_law_many"] (defScope sDraw) := ⟨rfl, rfl, rfl, by decide +kernel, rfl, by decide +kernel, by decide +kernel⟩
theorem ok_draw {f : Addr} {fd : FuncData} (F : Fun K "_law_draw" "_law_draw" sDraw f fd) (T : Free mg) : FnOk P w K mg base CX0 1 f fd ["_law_pot_here", "_law_many"] spDraw := by
  refine F.ok scDraw (fun vs H Q E h => ?_) (fun cdv A outer s H vs Q E hr h => ?_)
  · obtain ⟨p, m, rfl, _⟩ := h
    rfl
  · obtain ⟨p, m, rfl, ⟨x, y, hp, y0, y1⟩, m0, m1, k⟩ := h
    refine ⟨_, pss_cons (ps_if (pt_cmpR op_gt (pe_ix ix_list (pv 0) pe_int (fun _ _ => rfl)) pe_int (nomark _))
        (pss_cons (ps_asg (pe_callB call_divmod (by rfl) T.divmod (by decide +kernel) (pa_cons (pe_ix ix_list (pv 0) pe_int (fun _ _ => rfl)) (pa_cons (pv 1) pa_nil)))
            (pg_tup (by rfl) (pgs_cons (pg_sub (pv 0) pe_int set_list) (pgs_cons (pg_name (i := 2) scDraw.nd rfl (.inl rfl)) pgs_nil))))
          (pss_one (ps_ret (pv 2)))) pss_nil)
      (pss_cons (ps_asg (pe_op op_modN (pe_callTy call_int1 (by rfl) T.int (by decide +kernel) (pa_cons (pe_op op_add (pe_op op_mul (pe_ix ix_list (pv 0) pe_int (fun _ _ => rfl)) pe_int) pe_int) pa_nil)) pe_int) (pg_sub (pv 0) pe_int set_list))
        (pss_one (ps_ret (pe_op op_modN (pe_callTy call_int1 (by rfl) T.int (by decide +kernel) (pa_cons (pe_op op_fdiv (pe_op op_modN (pe_callTy call_int1 (by rfl) T.int (by decide +kernel)
          (pa_cons (pe_op op_mul (pe_ix ix_list (pv 0) pe_int (fun _ _ => rfl)) (pe_ix ix_list (pv 0) pe_int (fun _ _ => rfl))) pa_nil)) pe_int) pe_int) pa_nil)) (pv 1))))), ?_⟩
    refine ⟨_, rfl, p, _, _, _, rfl, rfl, SqL.of hp, rfl, _, _, rfl, rfl, _, rfl, ?_⟩
    refine ite2 (fun c => ?_) (fun c => ?_)
    · refine ⟨_, rfl, p, _, _, _, rfl, rfl, SqL.of hp, rfl, _, rfl, ?_⟩
      refine ⟨_, _, rfl, ⟨m0, by omega⟩, fun t ht => ?_⟩
      have hpt : p ≠ t := ne_of_none hp ht
      refine ⟨t, _, rfl, SqT.of upd_same, rfl, _, _, rfl, _, rfl, p, _, _, 0, rfl, rfl, by rw [upd_ne hpt]; exact hp, rfl, _, _, rfl, rfl, _, rfl, ?_⟩
      refine k _ _ (Int.emod_nonneg _ (by omega)) (Int.emod_lt_of_pos _ m0) (fun b o e hb => by rw [upd_ne hb, upd_ne (ne_of_none e ht)]; exact e) ⟨_, _, upd_same, y0, y1⟩
    · refine ⟨_, rfl, p, _, _, _, rfl, rfl, SqL.of hp, rfl, _, _, rfl, rfl, .inr ⟨by decide, by decide⟩, _, _, rfl, rfl, .inl ⟨_, rfl, _, _, rfl, rfl, (by show (2147483629 : Int) ≠ 0; decide), _, rfl, p, _, _, 1, rfl, rfl, hp, rfl, ?_⟩⟩
      have q := fm_bd (y * 39373 + 12227) (b := 2147483629) (by decide)
      refine ⟨_, rfl, p, _, _, _, rfl, rfl, SqL.of upd_same, rfl, _, rfl, p, _, _, _, rfl, rfl, SqL.of upd_same, rfl, _, _, rfl, rfl, .inl ⟨by omega, by omega⟩, .inl ⟨_, rfl, _, _, rfl, rfl, (by show (2147483563 : Int) ≠ 0; decide), _, _, rfl, rfl, ⟨by decide, by decide⟩,
        .inl ⟨_, rfl, _, rfl, _, _, rfl, rfl, (by show m ≠ 0; omega), ?_⟩⟩⟩
      have r := fm_bd (((y * 39373 + 12227).fmod 2147483629 * (y * 39373 + 12227).fmod 2147483629).fmod 2147483563 / 13) m0
      exact k _ _ r.1 r.2 (fun b o e hb => by rw [upd_ne hb]; exact e) ⟨_, _, upd_same, by omega, by omega⟩

/-! ### one of several -/
def spChoice (K : PySem.W.Frag) : Sp := fun vs H Q _ => ∃ (p l : Addr) (xs : List V), vs = [.ref p, .ref l] ∧ Rng H p ∧ H l = some (.lst xs) ∧ l ≠ p ∧ 0 < xs.length ∧ xs.length < 1000 ∧
  ∀ v H', v ∈ xs → (∀ b o, H b = some o → b ≠ p → H' b = some o) → Rng H' p → Q v H'
theorem scChoice : FnScope ["_law_pot_here", "_law_some"] ["_law_pot_here", "_law_some"] (defScope sChoice) := ⟨rfl, rfl, rfl, by decide +kernel, rfl, by decide +kernel, by decide +kernel⟩
theorem ok_choice {f fD : Addr} {fd fdD : FuncData} (F : Fun K "_law_pick" "_law_pick" sChoice f fd) (T : Free mg) (FD : Fun K "_law_draw" "_law_draw" sDraw fD fdD) (gD : mg "_law_draw" = some (.ref fD)) (bD : Binds K fdD ["_law_pot_here", "_law_many"] []) :
    FnOk P w K mg base CX0 2 f fd ["_law_pot_here", "_law_some"] (spChoice K) := by
  have GD : FnOk P w K mg base CX0 1 fD fdD ["_law_pot_here", "_law_many"] spDraw := ok_draw FD T
  refine F.ok scChoice (fun vs H Q E h => ?_) (fun cdv A outer s H vs Q E hr h => ?_)
  · obtain ⟨p, l, xs, rfl, _⟩ := h
    rfl
  · obtain ⟨p, l, xs, rfl, R, hl, hlp, x0, x1, k⟩ := h
    refine ⟨_, pss_one (ps_ret (pe_ix ix_list (pv 1) (pe_call GD hr rfl gD FD.kp bD .nil pass0 (pa_cons (pv 0) (pa_cons (pe_callB call_len_seq (by rfl) T.len PySem.boot_len (pa_cons (pv 1) pa_nil)) pa_nil))) (fun _ _ => rfl))), ?_⟩
    refine ⟨_, rfl, _, rfl, _, rfl, _, _, rfl, .inl (SqL.of hl), ?_⟩
    refine ⟨p, _, rfl, R, by omega, by omega, fun d H' d0 d1 kp R' => ?_⟩
    obtain ⟨j, rfl⟩ : ∃ j : Nat, d = (j : Int) := ⟨d.toNat, by omega⟩
    have hj : j < xs.length := by omega
    exact ⟨l, _, _, _, rfl, rfl, SqL.of (kp l _ hl hlp), atI_nat (List.getElem?_eq_getElem hj), k _ _ (List.getElem_mem hj) kp R'⟩
end
end K18
set_option maxHeartbeats 4000000
/-! Lambdas as values: made and kept in lists, called later by a def that got one of them. -/
namespace GL
open PySem PySem.Spec PyProof.Rows L2
/-- the lambda at f, made in X: its body, its scope, its code object at c' -/
def LamO (X : Cx) (params : Arguments) (body : Expr) (scope : Scope) (f c' : Addr) : HO := .ext fun h => ∃ pm ctv, h.get? f = some (lamObj X params body scope pm c' ctv)
theorem LamO.ok {X : Cx} {params : Arguments} {body : Expr} {scope : Scope} {f c' : Addr} {pm ctv : Value} {H : Hp} {h : Heap} (e : h.get? f = some (lamObj X params body scope pm c' ctv)) : ObjOk X.prog X.w H h f (LamO X params body scope f c') :=
  ⟨⟨pm, ctv, e⟩, ⟨_, e⟩, fun h1 h2 ⟨pm', ctv', e'⟩ st => ⟨pm', ctv', st _ e'⟩⟩
theorem lamO_ne {X : Cx} {params : Arguments} {body : Expr} {scope : Scope} {f c' : Addr} (ps : Array Value) : LamO X params body scope f c' ≠ .tbl ps := fun z => by
  unfold LamO at z
  cases z
section
variable {X : Cx} {pins : List (Addr × Obj)} {z : L2.St} {H : Hp} {s : Shared}
/-- a lambda is made: its object is known from now on -/
theorem lam_new {T : List (Addr × Str)} {c P : Addr} {params : Arguments} {body : Expr} {scope : Scope} {pos : Pos} {E : Value → Shared → Prop} {Q : Value → Shared → Prop} (I : Inv X pins z H s) (TB : LamX.TabB X.base X.mg c P) (own : X.env.code = .ref c)
    (mT : (P, X.env.qual ++ "<lambda>") ∈ T) (one : ∀ p ∈ T, p.1 = P → p.2 = X.env.qual ++ "<lambda>") (tabs : LamX.Tabs T H) (nodef : defaultsOf params X.env = ([], [])) (free : ∀ y ∈ scope.names, y.2 = .free → ∃ c, X.env.cells.lookup y.1 = some c)
    (go : ∀ (f c' : Addr) (H1 : Hp) (s' : Shared), Inv X pins z (upd H1 f (LamO X params body scope f c')) s' → LamX.ExtN H H1 → LamX.Tabs T H1 → H1 f = none → H1 c' = some (LamX.CodeO c' (X.env.qual ++ "<lambda>")) → Q (.ref f) s') :
    wpAny (model X.prog X.w) X.A (eval (.Lambda params body scope pos) X.env) Q E s := by
  obtain ⟨ps, atP, tri, among⟩ := tabs _ mT
  have rawP := I.hok P _ atP
  apply PySem.W.kla_eval nodef
  have glob := I.mod.glob.keeps I.bk
  have blt := TB.bm.keeps I.bk
  have hd := TB.code.keeps I.bk
  cases found : codeAmong pos ps.toList with
  | some cv =>
    obtain ⟨c', rfl, co⟩ := among pos cv found
    apply PySem.W.kla_makeFunctionHit (mg := X.mg) (c := c) (P := P) (ps := ps) (closure_ok free) I.ok.glob glob own hd rawP tri found blt
    intro ctv h' tk kept grew
    have J := I.kept (t' := tk) kept
    have fr : H h'.objs.size = none := I.hok.fresh grew
    exact go h'.objs.size c' H _ (J.laid (t' := tk) (fun b u e => Heap.get?_push_of_some _ e) (Nat.le_refl _) (LamO.ok (Heap.get?_push_size _ rfl))) (.refl H) tabs fr co
  | none =>
    apply PySem.W.kla_makeFunction (mg := X.mg) (c := c) (P := P) (ps := ps) (closure_ok free) I.ok.glob glob own hd rawP tri found TB.gP blt
    intro c' ctv h' tk but low high rec atP'
    obtain ⟨_, oc, vs, t, e0, r1, r2, r3⟩ := rec
    cases e0
    have newC : H c' = none := I.hok.fresh low
    have J := LamX.inv_table (t' := tk) (more := #[rawInt pos.line, rawInt pos.col, .ref c']) (q := X.env.qual ++ "<lambda>") (h' := h') I atP but atP' low ⟨oc, vs, t, r1, r2, r3⟩
    have ext : LamX.ExtN H (upd (upd H P (.tbl (ps ++ #[rawInt pos.line, rawInt pos.col, .ref c']))) c' (LamX.CodeO c' (X.env.qual ++ "<lambda>"))) := by
      intro b o e n
      have bP : b ≠ P := by
        intro w
        subst w
        exact n ps (Option.some.inj (e.symm.trans atP))
      rw [upd_ne (ne_of_none e newC), upd_ne bP]
      exact e
    have asL : (ps ++ #[rawInt pos.line, rawInt pos.col, Value.ref c']).toList = ps.toList ++ [rawInt pos.line, rawInt pos.col, .ref c'] := by simp
    have tabs' : LamX.Tabs T (upd (upd H P (.tbl (ps ++ #[rawInt pos.line, rawInt pos.col, .ref c']))) c' (LamX.CodeO c' (X.env.qual ++ "<lambda>"))) := by
      intro p hp
      by_cases at_ : p.1 = P
      · rw [one p hp at_, at_]
        refine ⟨_, (upd_ne (ne_of_none atP newC)).trans upd_same, by rw [asL]; exact PySem.TriplesOk_snoc _ _ _ _ tri, ?_⟩
        intro p' cv hcv
        rw [asL] at hcv
        rcases LamX.among_app _ tri hcv with old | new
        · obtain ⟨c0, w1, w2⟩ := among p' cv old
          exact ⟨c0, w1, ext _ _ w2 LamX.codeO_ne⟩
        · exact ⟨c', new, upd_same⟩
      · obtain ⟨ps', w1, w2, w3⟩ := tabs p hp
        refine ⟨ps', ?_, w2, fun p' cv hcv => ?_⟩
        · rw [upd_ne (ne_of_none w1 newC), upd_ne at_]
          exact w1
        · obtain ⟨c0, y1, y2⟩ := w3 p' cv hcv
          exact ⟨c0, y1, ext _ _ y2 LamX.codeO_ne⟩
    have fr : upd (upd H P (.tbl (ps ++ #[rawInt pos.line, rawInt pos.col, .ref c']))) c' (LamX.CodeO c' (X.env.qual ++ "<lambda>")) h'.objs.size = none := J.hok.fresh (Nat.le_refl _)
    exact go h'.objs.size c' _ _ (J.laid (t' := tk) (fun b u e => Heap.get?_push_of_some _ e) (Nat.le_refl _) (LamO.ok (Heap.get?_push_size _ rfl))) ext tabs' fr upd_same
/-- lambda: body, as a value -/
def tLamN (X : Cx) (T : List (Addr × Str)) (params : Arguments) (body : Expr) (scope : Scope) : TE := fun _ H Q => LamX.Tabs T H ∧ ∀ f c' H1, LamX.ExtN H H1 → LamX.Tabs T H1 → H1 f = none → H1 c' = some (LamX.CodeO c' (X.env.qual ++ "<lambda>")) → Q (.ref f) (upd H1 f (LamO X params body scope f c'))
theorem pe_lamN {T : List (Addr × Str)} {c P : Addr} {params : Arguments} {body : Expr} {scope : Scope} {pos : Pos} (TB : LamX.TabB X.base X.mg c P) (own : X.env.code = .ref c) (mT : (P, X.env.qual ++ "<lambda>") ∈ T) (one : ∀ p ∈ T, p.1 = P → p.2 = X.env.qual ++ "<lambda>")
    (L : LamX.LamS X.env.scope scope) (nodef : defaultsOf params X.env = ([], [])) : PE X (.Lambda params body scope pos) (tLamN X T params body scope) := by
  constructor
  intro pins s y H Q I ⟨tabs, h⟩
  refine lam_new I TB own mT one tabs nodef (L.has I.ok) ?_
  intro f c' H1 s' J ext tabs' fr co
  exact ⟨.ref f, _, J, rfl, h f c' H1 ext tabs' fr co⟩

/-- a lambda's body at its entry, the frame that made it still there; ex: what else has been written since -/
theorem lam_entry {HZ : Hp} {s1 : Shared} {ex : List Addr} {A : Around} {outer : List Env} {E : XK} {scope : Scope} {f c' : Addr} {h₁ : Heap} {tk : Nat} (I : Inv X pins z H s) (L : LamX.LamS X.env.scope scope) (e0 : Env0 X.prog X.w X.K X.mg X.base A outer s1 HZ) (hd : A.handled = none)
    (un : Un (frs X.stack) ex H HZ s.heap s1.heap) (apart : ∀ y c, X.env.cells.lookup y = some c → c ∉ ex) (names : h₁.Ns s1.heap.objs.size fun y => ([] : List (Str × Value)).reverse.lookup y) (kp : ∀ b o, s1.heap.get? b = some o → h₁.get? b = some o) :
    Inv (LamX.lamCx X A outer s1 HZ E scope f c') [] z HZ { s1 with heap := h₁, toks := tk } := by
  have closed := L.has I.ok
  have cellOf_ : ∀ {y c}, (cloFrom X.env.cells scope.names []).lookup y = some c → X.env.cells.lookup y = some c := by
    intro y c e
    rcases cloFrom_mem (PySem.mem_of_lookup e) with none_ | ⟨isF, rfl⟩
    · cases none_
    · obtain ⟨c1, w⟩ := closed _ isF rfl
      rw [show X.env.cells.lookup y = some c1 from w]
      rfl
  have seen : ∀ {y}, scope.names.lookup y = some .free → ∃ c, (cloFrom X.env.cells scope.names []).lookup y = some c := fun {y} e =>
    mem_lookup (cloFrom_has (cells := X.env.cells) (acc := []) (show (y, NameKind.free) ∈ scope.names from PySem.mem_of_lookup e))
  have stays : ∀ {y : Str} {c : Addr} {v : Option Value}, X.env.cells.lookup y = some c → s.heap.IsCell c v → h₁.IsCell c v := by
    intro y c v e ⟨o, there, isC⟩
    obtain ⟨sl, w⟩ := un.any there (I.freeC y c e) (apart y c e)
    exact ⟨_, kp _ _ w, isC⟩
  have noEx : ∀ b : Addr, b ∉ (LamX.lamCx X A outer s1 HZ E scope f c').ex := by
    intro b w
    cases (show b ∈ ([] : List Addr) from w)
  have notOwn : ∀ {y : Str} {kd : NameKind}, scope.names.lookup y = some kd → kd ≠ .local ∧ kd ≠ .cell := fun {y kd} e => L.own (y, kd) (PySem.mem_of_lookup e)
  have okL : (LamX.lamCx X A outer s1 HZ E scope f c').Ok := by
    refine ⟨e0.mod, L.kind, rfl, rfl, Nat.le_refl _, fun y1 y2 c w1 w2 => I.ok.inj y1 y2 c (cellOf_ w1) (cellOf_ w2), ?_, ?_, fun _ => hd, Around.frames_deeper e0.frames, .inr ⟨rfl, rfl⟩, fun b w => absurd w (noEx b), e0.bs, e0.bsz, fun b _ _ => noEx b, fun b w => absurd w (noEx b), e0.funs, e0.frf⟩
    · intro y hy
      rcases (show scope.names.lookup y = some .cell ∨ scope.names.lookup y = some .free from hy) with w | w
      · exact absurd rfl (notOwn w).2
      · exact seen w
    · intro y c w _
      cases (show false = true from w)
  refine ⟨okL, rfl, e0.bare, Un.kept kp, ⟨_, names, ?_⟩, ?_, e0.hok.fresh (Nat.le_refl _), ?_, ?_, e0.hok.kept kp, I.len⟩
  · intro i y v n1 n2 vis
    rcases (show Vis scope y from vis) with w | w | w
    · exact absurd rfl (notOwn w).1
    · exact absurd rfl (notOwn w).2
    · have inX : X.env.scope.names.lookup y = some .cell ∨ X.env.scope.names.lookup y = some .free := L.free (y, .free) (PySem.mem_of_lookup w) rfl
      obtain ⟨m, _, hl⟩ := I.loc
      obtain ⟨u, r, lk⟩ := hl i y v n1 n2 (.inr inX)
      obtain ⟨c2, e2⟩ := seen w
      refine ⟨u, r, .inr ⟨.inr w, c2, e2, ?_⟩⟩
      have e1 := cellOf_ e2
      rcases lk with ⟨isL, _⟩ | ⟨_, c3, e3, isC⟩
      · have isL' : X.env.scope.names.lookup y = some .local := isL
        rw [isL'] at inX
        rcases inX with w' | w' <;> cases w'
      · rw [e1] at e3
        cases e3
        exact stays e1 isC
  · intro y c e
    obtain ⟨v, isC⟩ := I.cell y c (cellOf_ e)
    exact ⟨v, stays (cellOf_ e) isC⟩
  · intro y c e
    obtain ⟨v, o, there, _⟩ := I.cell y c (cellOf_ e)
    exact un.free c o there (I.freeC y c (cellOf_ e)) (apart y c (cellOf_ e))
  · intro p hp
    cases (show p ∈ ([] : List (Addr × Obj)) ++ [] from hp)
/-- a(), a the parameter of the def that got the lambda; the frame that made the lambda was at s, then (within a comprehension, ex its iterator) the def was entered at s2 -/
theorem pe_actV {s2 : Shared} {H2 : Hp} {ex : List Addr} {CXg : CXT} {Eg : XK} {Ng : List Str} {qg : Str} {sg : Scope} {g f c' : Addr} {cdg : Value} {params : Arguments} {body : Expr} {scope : Scope} {k i : Nat} {a : Str} {pn : List (Addr × Obj)} {xe : Value → Shared → Prop} {W : WX} {tb : XK → TE} {p1 p2 : Pos}
    (I : Inv X pins z H s) (L : LamX.LamS X.env.scope scope) (since : Un (frs X.stack) ex H H2 s.heap s2.heap) (apart : ∀ y c, X.env.cells.lookup y = some c → c ∉ ex)
    (bare : ∀ (pm ctv : Value), bindArgs (PySem.W.kla_fn "<lambda>" (X.env.qual ++ "<lambda>") params body scope (cloFrom X.env.cells scope.names []) pm (.ref c') ctv) ⟨[], []⟩ = pure [])
    (tk : Takes ((cxOf CXg X.prog X.w X.K X.mg X.base Ng qg sg g cdg X.A X.stack s2 H2 Eg).tr pn xe) W) (room : Room (k + 1) (X.A.deeper (envOfC qg sg s2.heap.objs.size g cdg)))
    (inner : ∀ (A : Around) (outer : List Env) (s3 : Shared) (H3 : Hp) (E : XK), A.guards = X.A.guards → Room k (A.deeper (LamX.lamEnv X scope s3.heap.objs.size f c')) → PE (LamX.lamCx X A outer s3 H3 E scope f c') body (tb E))
    (at_ : Ng[i]? = some a) (hv : Vis sg a) (hd : (a == ("__debug__" : Str)) = false := by decide) (hcd : (a == ("__classdict__" : Str)) = false := by decide) :
    PE ((cxOf CXg X.prog X.w X.K X.mg X.base Ng qg sg g cdg X.A X.stack s2 H2 Eg).tr pn xe) (.Call (.Name a p1) [] [] p2)
      (fun y HZ Q => y[i]? = some (some (.ref f)) ∧ HZ f = some (LamO X params body scope f c') ∧ HZ c' = some (LamX.CodeO c' (X.env.qual ++ "<lambda>")) ∧ tb (fun cls d H' => W cls d y H') z HZ Q) := by
  constructor
  intro pinsZ sZ y HZ Q IZ ⟨slot, lamAt, code, rd⟩
  have nm : PE ((cxOf CXg X.prog X.w X.K X.mg X.base Ng qg sg g cdg X.A X.stack s2 H2 Eg).tr pn xe) (.Name a p1) _ := pe_var (pos := p1) (i := i) at_ hv hd hcd
  apply wpAny_Call_Name_kw
  refine thn (nm.run pinsZ sZ y HZ (fun v H1 => v = .ref f ∧ H1 = HZ) IZ ⟨.ref f, slot, rfl, rfl⟩) ?_
  rintro u s1 ⟨v, H1, I1, r1, rfl, rfl⟩
  cases (show u = Value.ref f from r1)
  obtain ⟨⟨pm, ctv, there⟩, _, _⟩ := I1.hok f _ lamAt
  refine PySem.W.callWith_F0 ⟨_, _, _, _, there⟩ ?_
  have un : Un (frs X.stack) [] H2 H1 s2.heap s1.heap := I1.base
  have all : Un (frs X.stack) ex H H1 s.heap s1.heap := since.trans (un.mono (fun b w => w) fun b w => by cases w)
  obtain ⟨⟨oc, vs, t, e1, e2, e3⟩, _, _⟩ := I1.hok c' _ code
  have run : codeAny (model X.prog X.w) (X.A.deeper (envOfC qg sg s2.heap.objs.size g cdg)) (.call (.ref f) ⟨[], []⟩) (CR (L2.CX X.prog X.w) (envOfC qg sg s2.heap.objs.size g cdg :: X.stack) X.prog X.w H1 s1 Q fun cls d H' => W cls d y H') s1 := by
    refine PySem.W.kla_callFunE room.depth there rfl L.co L.gen rfl ⟨c', oc, vs, t, rfl, e1, e2, e3⟩ ?_
    rw [bare]
    refine wpAny_pure (wpAny_newFunctionEnv (fun n hn => (L.own n hn).2) (fun n hn => absurd hn (by simp)) (fun h₁ names but => ⟨I1.nolimit.fresh _ but, ?_⟩) L.kind)
    have kp : ∀ b o, s1.heap.get? b = some o → h₁.get? b = some o := fun b o q => but.extBut b o (Nat.ne_of_lt (Heap.lt_size q)) (Heap.get?_push_of_some _ q)
    have J : Inv (LamX.lamCx X (X.A.deeper (envOfC qg sg s2.heap.objs.size g cdg)) (envOfC qg sg s2.heap.objs.size g cdg :: X.stack) s1 H1 (fun cls d H' => W cls d y H') scope f c') [] z H1 { s1 with heap := h₁, toks := s1.toks + ([] : List (Str × Value)).length } :=
      lam_entry I L I1.env0 room.hd all apart names kp
    refine PySem.W.kla_codeExpr (wpAny_mono ((inner (X.A.deeper (envOfC qg sg s2.heap.objs.size g cdg)) _ s1 H1 _ rfl (room.deeper _)).run [] _ _ H1 Q J rd) ?_ fun e s' q => q)
    rintro v s' ⟨w', H', J', rv, q⟩
    exact ⟨w', H', J'.os, J'.bare, J'.base, J'.hok, rv, q⟩
  have out := passAt tk y
  refine wpAny_call (codeAny_mono run ?_)
  intro r s' q
  match r, q with
  | .error er, q => exact out pinsZ H1 s1 er s' I1 q
  | .ok (.ret u), q => exact I1.after q
  | .ok .next, q => exact False.elim q
  | .ok .brk, q => exact False.elim q
  | .ok .cont, q => exact False.elim q
end
end GL
set_option maxHeartbeats 4000000
/-! [e for a in xs] where e is told of the very frame that the comprehension stands in. -/
namespace GL
open PySem PySem.Spec PyProof.Rows L2
section
variable {X : Cx} {elt tg iter : Expr} {scope : Scope} {own : List (Str × Nat)} {pos : Pos} {wi : TI} {g : TG} {te : L2.St → TE}
theorem pe_lcI (hc : X.calm = true) (hN : X.N.Nodup) (hi : PI X tg iter wi) (ok : BlkOk X.N X.env.scope scope own) (hg : ∀ (s : Shared) (H : Hp) (C : Addr) (cl : List (Str × Addr)) (fp : List Addr), PG (X.blk s H scope (compEnvC scope cl C X.env) fp) tg g)
    (he : ∀ (pins : List (Addr × Obj)) (z : L2.St) (s : Shared) (H : Hp) (C : Addr) (cl : List (Str × Addr)) (fp : List Addr), Inv X pins z H s → (∀ b ∈ fp, FpOk X pins H b) → PE (X.blk s H scope (compEnvC scope cl C X.env) fp) elt (te z))
    (hs : ∀ x, foldedSetIterable iter X.env x = pure x := by intro _; rfl) : PE X (.ListComp elt [⟨tg, iter, [], 0⟩] scope pos) (fun z H Q => tLc wi g tYes (te z) (own.map (·.2)) z H Q) := by
  constructor
  intro pins s z H Q I h
  rw [eval_ListComp]
  have closed : ∀ y ∈ scope.names, y.2 = .free → ∃ c, X.env.cells.lookup y.1 = some c := by
    intro y hy e
    exact (ok.free y hy e).elim (fun k => I.ok.has _ (.inl k)) fun k => I.ok.has _ (.inr k)
  apply wpAny_comprehension_free rfl hs (closure_ok closed) ok.kind (fun y hy e => by rw [ok.uniq y hy, e])
  refine thn (hi.run pins s z H _ I h) fun _ sA ha => thn ha ?_
  rintro itv sB ⟨it, fp, tn, J, HB, rfl, IB, T, tB, fB, rd⟩
  refine wpAny_newObj_type (newEnv_comp ?_) (Nat.zero_le _)
  -- D: the list that grows; sC: the state with it
  obtain ⟨D, hD⟩ : ∃ D, D = sB.heap.objs.size := ⟨_, rfl⟩
  have freshD : HB D = none := IB.hok.fresh (Nat.le_of_eq hD.symm)
  obtain ⟨W, ⟨m0, w0⟩, turn⟩ := rd D freshD
  obtain ⟨sC, eC⟩ : ∃ sC : Shared, sC = { sB with heap := sB.heap.push { cls := .type "list", data := .seq ([] : List Value).toArray } } := ⟨_, rfl⟩
  have hC : sC.heap = sB.heap.push { cls := .type "list", data := .seq ([] : List Value).toArray } := by rw [eC]
  rw [← eC, ← hD]
  have lay : ∀ b o, sB.heap.get? b = some o → sC.heap.get? b = some o := fun b o e => by rw [hC]; exact Heap.get?_push_of_some _ e
  obtain ⟨HC, eHC⟩ : ∃ HC : Hp, HC = upd HB D (.lst []) := ⟨_, rfl⟩
  have IC : Inv X pins z HC sC := by
    rw [eHC, eC]
    exact IB.laid (t' := sB.toks) (fun b o e => Heap.get?_push_of_some _ e) (Nat.le_of_eq hD.symm) ⟨Nat.zero_le _, [], 0, .nil, by rw [hD]; exact Heap.get?_push_size _ rfl⟩
  have young : ∀ b ∈ fp, b < sB.heap.objs.size := fun b hb => let ⟨o, e, _⟩ := T.obj _ _ tB b hb; Heap.lt_size e
  have fC : ∀ b ∈ fp, FpOk X pins HC b := by
    intro b hb
    obtain ⟨f0, fr⟩ := fB b hb
    refine ⟨?_, fr⟩
    rw [eHC, upd_ne (by rw [hD]; exact Nat.ne_of_lt (young b hb))]
    exact f0
  have fC2 : ∀ b ∈ fp, FpOk X pins HC b ∧ b < sC.heap.objs.size := fun b hb => ⟨fC b hb, by rw [hC, Heap.size_push]; exact Nat.lt_succ_of_lt (young b hb)⟩
  have tC : tn 0 sC.heap := T.keep _ _ _ tB fun b _ o e => lay b o e
  have IS := block_start IC ok hN fC2
  obtain ⟨ce, hce⟩ : ∃ ce : Env, ce = compEnvC scope (cellsFrom (sC.heap.objs.size + 1) scope.names (cloFrom X.env.cells scope.names [])) sC.heap.objs.size X.env := ⟨_, rfl⟩
  have pg : PG (X.blk sC HC scope ce fp) tg g := by rw [hce]; exact hg _ _ _ _ _
  have pe : PE (X.blk sC HC scope ce fp) elt (te z) := by rw [hce]; exact he pins z _ _ _ _ _ IC fC
  rw [← hce] at IS
  rw [← eHC] at w0
  have ceL : ce.locals = sC.heap.objs.size := by rw [hce]; rfl
  obtain ⟨sD, eD⟩ : ∃ sD : Shared, sD = { sC with heap := pushCells (sC.heap.push { cls := .type "dict", data := .dict #[] }) scope.names } := ⟨_, rfl⟩
  rw [← eD] at IS
  have tD : tn 0 sD.heap := T.keep _ _ _ tC fun b _ o e => by rw [eD]; exact pushCells_keeps _ _ _ _ (Heap.get?_push_of_some _ e)
  have n0 : ∀ b ∈ fp, HC b = none := fun b hb => (fC b hb).1
  have inBlk : ∀ {σ' : L2.St} {H' : Hp} {s' : Shared}, Inv (X.blk sC HC scope ce fp) [] σ' H' s' → (∀ b ∈ fp, H' b = none) → ∀ b ∈ fp, FpOk (X.blk sC HC scope ce fp) [] H' b := by
    intro σ' H' s' J' n b hb
    obtain ⟨x1, x2⟩ := J'.ok.exf b hb
    refine ⟨n b hb, x1, J'.ok.exfs b hb, .inl hb, x2, fun p hp => ?_⟩
    cases (show p ∈ ([] : List (Addr × Obj)) ++ [] from hp)
  have post : ∀ (sE : Shared) (HE : Hp), Inv (X.blk sC HC scope ce fp) [] (wipe z (own.map (·.2))) HE sE → Q (.ref D) HE → compPost (model X.prog X.w) X.A X.xe none (EP X pins z Q) (.ref D) sC.heap.objs.size (.ok .next) sE := by
    intro sE HE JE q
    have back : Inv X pins z HE sE := IC.call' (ch := fp) JE.os JE.base JE.hok JE.bare fun b hb => by
      obtain ⟨_, y1, y2, y3, y4, y5⟩ := fC b hb
      exact ⟨y3, y1, y4, y5⟩
    have notT : HE sC.heap.objs.size = none := by
      have w := JE.free
      rw [← ceL]
      exact w
    obtain ⟨m, ns, _⟩ := JE.loc
    have ns' : sE.heap.Ns sC.heap.objs.size m := by
      rw [← ceL]
      exact ns
    refine ⟨m, ns', fun h'' sb => ?_⟩
    obtain ⟨y0, y1, y2, y3, y4, y5⟩ := IC.fpOk (H' := HE) (Nat.le_refl _) notT
    exact ⟨.ref D, HE, back.turned (t' := sE.toks) (fun b o hb e => (sb.2 b hb).trans e) y0 y1 y3 y4 y5, rfl, q⟩
  have loop : codeAny (model X.prog X.w) X.A (.compLoop (.ListComp elt [⟨tg, iter, [], 0⟩] scope pos) 0 (.ref it) (.ref D) ce) (compPost (model X.prog X.w) X.A X.xe none (EP X pins z Q) (.ref D) sC.heap.objs.size) sD := by
    refine compLoop_any (fun n s' => ∃ i H', Inv (X.blk sC HC scope ce fp) [] (wipe z (own.map (·.2))) H' s' ∧ tn i s'.heap ∧ (∀ b ∈ fp, H' b = none) ∧ W i n H') ?_ m0 ⟨0, HC, IS, tD, n0, w0⟩
    rintro n sE ⟨i, HE, JE, tE, nE, wE⟩
    rcases turn i n HE wE with ⟨stop, q⟩ | ⟨go, Nx, again, step⟩
    · refine thnF (T.done (X.blk sC HC scope ce fp) rfl rfl rfl hc i [] sE _ HE (fun _ _ => False) JE (inBlk JE nE) tE stop) ?_
      rintro r sF ⟨rfl, JF⟩
      exact post sF HE JF q
    · refine thnF (T.item (X.blk sC HC scope ce fp) rfl rfl rfl hc i [] sE _ HE (fun _ _ => False) JE (inBlk JE nE) tE go) ?_
      rintro r sF ⟨u, rfl, hF⟩
      refine thnF hF ?_
      rintro _ sG ⟨x, HG, JG, rx, yl, tG, nG⟩
      have JP := JG.pinned (inBlk JG nG) (T.obj _ _ tG)
      refine thnF (pg.run _ sG _ HG x u _ JP rx (step x HG yl)) ?_
      rintro _ sH ⟨σH, HH, JH, wiped, rdT⟩
      have close : ∀ {s' : Shared} {H' : Hp}, Inv (X.blk sC HC scope ce fp) ([] ++ pinsAt fp sG.heap) σH H' s' → Nx H' → ∃ m, m < n ∧ ∃ i H', Inv (X.blk sC HC scope ce fp) [] (wipe z (own.map (·.2))) H' s' ∧ tn i s'.heap ∧ (∀ b ∈ fp, H' b = none) ∧ W i m H' := by
        intro s' H' J' nx
        obtain ⟨m', less, w'⟩ := again H' nx
        have held : ∀ b ∈ fp, ∀ o, sG.heap.get? b = some o → s'.heap.get? b = some o ∧ H' b = none := by
          intro b hb o e
          obtain ⟨k1, k2, _⟩ := J'.pin (b, o) (List.mem_append_right _ (List.mem_append_right _ (mem_pinsAt hb e)))
          exact ⟨k1, k2⟩
        have len : (wipe z (own.map (·.2))).length = σH.length := by rw [← wiped, wipe_length]
        refine ⟨m', less, i + 1, H', (J'.unpinned (pins := [])).weak len ?_, T.keep _ _ _ tG fun b hb o e => (held b hb o e).1, ?_, w'⟩
        · intro j v e
          rw [← wiped] at e
          exact (wipe_some e).1
        · intro b hb
          obtain ⟨o, e, _⟩ := T.obj _ _ tG b hb
          exact (held b hb o e).2
      refine thnF ((pts_nil (X := X.blk sC HC scope ce fp)).run _ sH σH HH _ JH rdT) ?_
      rintro b sI ⟨HI, JI, rdE⟩
      cases b with
      | false => exact close JI rdE
      | true =>
        refine thnF (pe.run _ sI σH HI _ JI rdE) ?_
        rintro v sJ ⟨yv, HJ, JJ, ry, acc, atD, small, nx⟩
        exact app_ok (X := X.blk sC HC scope ce fp) JJ atD small ry fun sK JK => close JK nx
  have all := codeAny_compStart_list loop (T.self X.A 0 _ _ _ tD loop)
  rw [eD, hce] at all
  exact all
end
end GL
set_option maxHeartbeats 4000000
/-! [told(a) for a in calls], calls a list of lambdas of the frame. -/
namespace GL
open PySem PySem.Spec PyProof.Rows L2
/-- as Gives, whatever of the heap the lambda's call needs -/
def GivesP (X : Cx) (Ng : List Str) (x : Str) (sg : Scope) (g : Addr) (cdg : Value) (bg : List Stmt) (a : Str) (k : Nat) (TT : (XK → Hp → VK → Prop) → Hp → VK → Prop) : Prop :=
  ∀ (f : Addr) (Ok : Hp → Prop) (s : Shared) (H : Hp) (Q : VK) (tl : XK → Hp → VK → Prop), (∀ H1 H2, (∀ b o, H1 b = some o → H2 b = some o) → Ok H1 → Ok H2) → Room k (X.A.deeper (envOfC x sg s.heap.objs.size g cdg)) →
    (∀ (W : WX) (pn : List (Addr × Obj)) (xe : Value → Shared → Prop) (p1 p2 : Pos), Takes ((cxOf CX0 X.prog X.w X.K X.mg X.base Ng x sg g cdg X.A X.stack s H E0).tr pn xe) W →
      PE ((cxOf CX0 X.prog X.w X.K X.mg X.base Ng x sg g cdg X.A X.stack s H E0).tr pn xe) (.Call (.Name a p1) [] [] p2) (fun y HZ Q => y[0]? = some (some (.ref f)) ∧ Ok HZ ∧ tl (fun cls d H' => W cls d y H') HZ Q)) →
    Ok H → TT tl H Q → ∃ t, PSs (cxOf CX0 X.prog X.w X.K X.mg X.base Ng x sg g cdg X.A X.stack s H E0).nox bg t ∧ t { nx := fun _ H' => Q .non H', rt := Q } (L2.start Ng [.ref f]) H
theorem GivesP.gives {X : Cx} {Ng : List Str} {x : Str} {sg : Scope} {g : Addr} {cdg : Value} {bg : List Stmt} {a q : Str} {k : Nat} {TT : (XK → Hp → VK → Prop) → Hp → VK → Prop} (h : GivesP X Ng x sg g cdg bg a k TT) : Gives X Ng x sg g cdg bg a q k TT :=
  fun f c' s H Q tl room act co rd => h f (fun H => H c' = some (LamX.CodeO c' q)) s H Q tl (fun _ _ k o => k _ _ o) room act co rd
/-- told(e), e one of the frame's lambdas: z the frame's slots -/
def tToldV (X : Cx) (z : L2.St) (k : Nat) (TT : (XK → Hp → VK → Prop) → Hp → VK → Prop) (ta : TE) : TE := fun y H Q => ta y H fun v H1 => ∃ (f c' : Addr) (params : Arguments) (body : Expr) (scope : Scope) (tb : XK → TE), v = .ref f ∧ H1 f = some (LamO X params body scope f c') ∧
  H1 c' = some (LamX.CodeO c' (X.env.qual ++ "<lambda>")) ∧ LamX.LamS X.env.scope scope ∧ (∀ (pm ctv : Value), bindArgs (PySem.W.kla_fn "<lambda>" (X.env.qual ++ "<lambda>") params body scope (cloFrom X.env.cells scope.names []) pm (.ref c') ctv) ⟨[], []⟩ = pure []) ∧
  (∀ (A : Around) (outer : List Env) (s : Shared) (H : Hp) (E : XK), A.guards = X.A.guards → Room k (A.deeper (LamX.lamEnv X scope s.heap.objs.size f c')) → PE (LamX.lamCx X A outer s H E scope f c') body (tb E)) ∧ TT (fun E H' Q' => tb E z H' Q') H1 Q
section
variable {X : Cx}
theorem pe_toldV {TT : (XK → Hp → VK → Prop) → Hp → VK → Prop} {x a : Str} {g : Addr} {k : Nat} {pg : Arguments} {bg : List Stmt} {sg : Scope} {dV kV doc pm cdv ct oc : Value} {an od : Option Addr} {osl : Array (Option Value)} {Ng : List Str} {e : Expr} {ta : TE} {p pos : Pos}
    {pins : List (Addr × Obj)} {z : L2.St} {H : Hp} {s : Shared} {bsc : Scope} {ce : Env} {fp : List Addr} (I : Inv X pins z H s) (fok : ∀ b ∈ fp, FpOk X pins H b)
    (hg : Gl (X.blk s H bsc ce fp) x) (hm : X.mg x = some (.ref g)) (hk : PySem.W.keepIn X.K (.ref g) = true) (lk : X.K.lookup g = some ⟨oc, od, .func (PySem.W.fnOf x x pg bg sg dV kV doc pm an cdv ct), osl⟩) (code : PySem.W.codeIn X.K cdv x = true)
    (hb : Binds X.K (PySem.W.fnOf x x pg bg sg dV kV doc pm an cdv ct) [a] []) (Sg : FnScope Ng [a] sg) (a0 : Ng[0]? = some a) (va : Vis sg a) (gives : GivesP X Ng x sg g cdv bg a (k + 1) TT) (hr : Room (k + 2) X.A)
    (he : PE (X.blk s H bsc ce fp) e ta) (hst : starEach [e] ce = (false, eval e ce) :: starEach [] ce := by rfl) (hdb : (x == ("__debug__" : Str)) = false := by decide) (hd : (a == ("__debug__" : Str)) = false := by decide) (hcd : (a == ("__classdict__" : Str)) = false := by decide) :
    PE (X.blk s H bsc ce fp) (.Call (.Name x p) [e] [] pos) (tToldV X z k TT ta) := by
  constructor
  intro pinsB s0 y H0 Q J h
  apply wpAny_Call_Name_kw
  refine ld_glob J hg hm ?_ hdb
  refine PySem.W.callWith_K (h₀ := X.base) I.ok.mod.kin hk ?_ hst (by rfl)
  rw [show starEach [e] (X.blk s H bsc ce fp).env = _ from hst]
  refine Calls.spliced_cons (thn (he.run pinsB s0 y H0 _ J h) ?_)
  rintro u s2 ⟨v, H2, I2, r2, f, c', params, body, scope, tb, rfl, lamAt, codeAt_, L, bare, inner, rd⟩
  cases (show u = Value.ref f from r2)
  refine Calls.spliced_nil ⟨I2.kIn, ?_⟩
  have since : Un (frs X.stack) fp H H2 s.heap s2.heap := I2.base
  have apart : ∀ y c, X.env.cells.lookup y = some c → c ∉ fp := fun y c q m => (fok c m).2.2.2.2.1 y c q rfl
  have run : codeAny (model X.prog X.w) X.A (.call (.ref g) ⟨[.ref f], []⟩) (CR CX0 X.stack X.prog X.w H2 s2 Q E0) s2 := by
    refine LamX.run_ofS (N := Ng) (ps := [a]) (us := [.ref f]) (vs := [.ref f]) lk code Sg hr I2.env0 (hb s2 [.ref f] I2.kIn rfl) (.cons rfl .nil) rfl fun room => ?_
    obtain ⟨t', ok, rd'⟩ := gives f (fun H => H f = some (LamO X params body scope f c') ∧ H c' = some (LamX.CodeO c' (X.env.qual ++ "<lambda>"))) s2 H2 Q (fun E H' Q' => tb E z H' Q') (fun _ _ k o => ⟨k _ _ o.1, k _ _ o.2⟩) room
      (fun W pn xe p1 p2 tk => by
        have act := pe_actV (p1 := p1) (p2 := p2) (i := 0) I L since apart bare tk room (fun A outer s3 H3 E hA hr3 => inner A outer s3 H3 E hA hr3) a0 va hd hcd
        exact ⟨fun pins s σ H Q I h => act.run pins s σ H Q I ⟨h.1, h.2.1.1, h.2.1.2, h.2.2⟩⟩) ⟨lamAt, codeAt_⟩ rd
    exact ⟨t', ok.nox, rd'⟩
  refine wpAny_call (codeAny_mono run ?_)
  intro r s3 q
  match r, q with
  | .error er, q => exact False.elim q
  | .ok (.ret u), q => exact I2.after q
  | .ok .next, q => exact False.elim q
  | .ok .brk, q => exact False.elim q
  | .ok .cont, q => exact False.elim q
end
end GL
set_option maxHeartbeats 4000000
namespace K18
open PySem PySem.Spec PyProof.Rows L2 GL StX
abbrev sTold : Stmt := tp 40
abbrev aFE (K : PySem.W.Frag) : Addr := He.ga K "FadeError"
/-- the errors that this law hears of -/
structure EF (K : PySem.W.Frag) (mg : Str → Option Value) : Prop where
  xA : XC K (aIA K) .ve
  xL : XC K (aIL K) .ve
  xT : XC K (aTM K) .ve
  gA : mg "InvalidName" = some (.ref (aIA K))
  gL : mg "InvalidRule" = some (.ref (aIL K))
  gT : mg "TooMany" = some (.ref (aTM K))
  gF : mg "FadeError" = some (.ref (aFE K))
  nAv : PySem.W.findIn K (.ref (aIA K)) "value" = some none
  nLp : PySem.W.findIn K (.ref (aIL K)) "part" = some none
  nLq : PySem.W.findIn K (.ref (aIL K)) "position" = some none
  nTk : PySem.W.findIn K (.ref (aTM K)) "kind" = some none
  nTl : PySem.W.findIn K (.ref (aTM K)) "limit" = some none
  aa : PySem.W.exmOne K (.ref (aIA K)) (.ref (aIA K)) = some true
  la : PySem.W.exmOne K (.ref (aIL K)) (.ref (aIA K)) = some false
  ll : PySem.W.exmOne K (.ref (aIL K)) (.ref (aIL K)) = some true
  ta : PySem.W.exmOne K (.ref (aTM K)) (.ref (aIA K)) = some false
  tl : PySem.W.exmOne K (.ref (aTM K)) (.ref (aIL K)) = some false
  tt : PySem.W.exmOne K (.ref (aTM K)) (.ref (aTM K)) = some true
  fA : PySem.W.kitOne K (.ref (aIA K)) (.ref (aFE K)) = some true
  fL : PySem.W.kitOne K (.ref (aIL K)) (.ref (aFE K)) = some true
  fT : PySem.W.kitOne K (.ref (aTM K)) (.ref (aFE K)) = some true
  vA : PySem.W.kitOne K (.ref (aIA K)) (.type "ValueError") = some true
  isi : mg "isinstance" = none
  ve : mg "ValueError" = none
  sp : PySem.W.specialIn K (.builtin "object.__class__") "__get__" = some (some (.builtin "getset_descriptor.__get__"))
  tk : PySem.W.takesIn K (.builtin "object.__class__") = some true
/-- what is heard of a call that ends so -/
def TT21 (K : PySem.W.Frag) : (XK → Hp → VK → Prop) → Hp → VK → Prop := fun tl H Q =>
  ((∀ E H1 R, Same H H1 → (∀ v H2, Same H1 H2 → R v H2) → tl E H1 R) ∧ ∀ r H3, Same H H3 → H r = none → H3 r = some (.lst [.str "made"]) → Q (.ref r) H3) ∨
  (∃ v, (∀ E H1 R, Same H H1 → outW (aIA K) [("value", v)] H1 E → tl E H1 R) ∧ ∀ r H3, Same H H3 → H r = none → H3 r = some (.lst [.str "name", v, .bl true, .bl true]) → Q (.ref r) H3) ∨
  (∃ (part : Str) (v : V), (∀ E H1 R, Same H H1 → outW (aIL K) (rFs part v) H1 E → tl E H1 R) ∧ ∀ r H3, Same H H3 → H r = none → H3 r = some (.lst [.str "rule", .str part, v, .bl true]) → Q (.ref r) H3) ∨
  ((∀ E H1 R, Same H H1 → outW (aTM K) [("limit", .int 8), ("kind", .str "conditions")] H1 E → tl E H1 R) ∧ ∀ r H3, Same H H3 → H r = none → H3 r = some (.lst [.str "many", .str "conditions", .int 8, .bl true]) → Q (.ref r) H3)
section
variable {mg : Str → Option Value}
abbrev nTold : List Str := ["_law_call", "_law_told_here", "e"]
theorem scTold : FnScope nTold ["_law_call"] (defScope sTold) := ⟨rfl, rfl, rfl, by decide +kernel, rfl, by decide +kernel, by decide +kernel⟩
theorem told21 {X : Cx} {g : Addr} {cdg : Value} {k : Nat} (hm : X.mg = mg) (Z : EF X.K mg) : GivesP X nTold "_law_told" (defScope sTold) g cdg (defBody sTold) "_law_call" (k + 4) (TT21 X.K) := by
  subst hm
  intro f Ok s H Q tl okSame room act hc h
  refine ⟨_, pss_cons (ps_set (i := 1) scTold.nd rfl (Or.inl rfl) (pe_lst (pa_cons pe_str pa_nil)))
    (pss_cons (ps_try_named rfl rfl scTold.nd LamX.takes0 (fun W pn xe tk => pss_cons (ps_expr (act W pn xe _ _ tk)) (pss_one (ps_set (i := 1) scTold.nd rfl (Or.inl rfl) (pe_lst (pa_cons pe_str pa_nil)))))
      (Clauses.cons (c := .ref (aIA X.K)) (i := 2) rfl rfl ⟨rfl, by decide, .inl Z.gA⟩ (fun a oe cls d pn hz hf => pss_one (ps_set (i := 1) scTold.nd rfl (Or.inl rfl) (pe_lst (pa_cons pe_str (pa_cons (pe_caught Z.xA hz hf (pv 2))
        (pa_cons (pe_callB (call_caughtIs Z.xA hz hf Z.sp Z.tk) (by rfl) Z.isi (by decide +kernel) (pa_cons (pv 2) (pa_cons (pe_glob (v := .ref (aFE X.K)) rfl Z.gF rfl) pa_nil)))
          (pa_cons (pe_callB (call_caughtIs Z.xA hz hf Z.sp Z.tk) (by rfl) Z.isi (by decide +kernel) (pa_cons (pv 2) (pa_cons (pe_bltn (v := .ty "ValueError") (by rfl) Z.ve (by decide +kernel) rfl) pa_nil))) pa_nil)))))))
      (Clauses.cons (c := .ref (aIL X.K)) (i := 2) rfl rfl ⟨rfl, by decide, .inl Z.gL⟩ (fun a oe cls d pn hz hf => pss_one (ps_set (i := 1) scTold.nd rfl (Or.inl rfl) (pe_lst (pa_cons pe_str (pa_cons (pe_caught Z.xL hz hf (pv 2)) (pa_cons (pe_caught Z.xL hz hf (pv 2))
        (pa_cons (pe_callB (call_caughtIs Z.xL hz hf Z.sp Z.tk) (by rfl) Z.isi (by decide +kernel) (pa_cons (pv 2) (pa_cons (pe_glob (v := .ref (aFE X.K)) rfl Z.gF rfl) pa_nil))) pa_nil)))))))
      (Clauses.cons (c := .ref (aTM X.K)) (i := 2) rfl rfl ⟨rfl, by decide, .inl Z.gT⟩ (fun a oe cls d pn hz hf => pss_one (ps_set (i := 1) scTold.nd rfl (Or.inl rfl) (pe_lst (pa_cons pe_str (pa_cons (pe_caught Z.xT hz hf (pv 2)) (pa_cons (pe_caught Z.xT hz hf (pv 2))
        (pa_cons (pe_callB (call_caughtIs Z.xT hz hf Z.sp Z.tk) (by rfl) Z.isi (by decide +kernel) (pa_cons (pv 2) (pa_cons (pe_glob (v := .ref (aFE X.K)) rfl Z.gF rfl) pa_nil))) pa_nil)))))))
      .nil))))
    (pss_one (ps_ret (pv 1)))), ?_⟩
  refine ⟨(by show 1 ≤ sizeLine; decide), fun l nl => ?_⟩
  have u1 := same_new (o := .lst [V.str "none"]) nl
  have hc1 := okSame _ _ u1 hc
  generalize upd H l (.lst [V.str "none"]) = H1 at *
  refine ⟨rfl, hc1, ?_⟩
  rcases h with ⟨run, fin⟩ | ⟨v, run, fin⟩ | ⟨part, v, run, fin⟩ | ⟨run, fin⟩
  · refine run _ _ _ u1 fun v H2 k2 => ⟨(by show 1 ≤ sizeLine; decide), fun p np => ?_⟩
    have u3 := same_new (o := .lst [V.str "made"]) np
    exact ⟨_, rfl, fin p _ ((u1.trans k2).trans u3) (none_of (u1.trans k2) np) upd_same⟩
  · refine run _ _ _ u1 fun d H2 k2 n2 e2 => ?_
    refine ⟨true, Z.aa, fun _ a na => ?_, (fun z => nomatch z)⟩
    refine ⟨_, rfl, rfl, rfl, _, _, Z.nAv, .inr ⟨d, rfl, e2⟩, rfl, _, rfl, .ref (aFE X.K), .ref (aFE X.K), true, _, rfl, rfl, .inr ⟨d, rfl, e2⟩, .own _, Z.fA, _, rfl, .ty "ValueError", .type "ValueError", true, _, rfl, rfl, .inr ⟨d, rfl, e2⟩, .ty _, Z.vA, (by show 4 ≤ sizeLine; decide), fun p np => ?_⟩
    have u3 := same_new (o := .lst [V.str "name", v, .bl true, .bl true]) np
    exact ⟨_, rfl, fin p _ ((u1.trans k2).trans u3) (none_of (u1.trans k2) np) upd_same⟩
  · refine run _ _ _ u1 fun d H2 k2 n2 e2 => ?_
    refine ⟨false, Z.la, (fun z => nomatch z), fun _ => ⟨true, Z.ll, fun _ a na => ?_, (fun z => nomatch z)⟩⟩
    refine ⟨_, rfl, rfl, rfl, _, _, Z.nLp, .inr ⟨d, rfl, e2⟩, rfl, _, rfl, rfl, rfl, _, _, Z.nLq, .inr ⟨d, rfl, e2⟩, rfl, _, rfl, .ref (aFE X.K), .ref (aFE X.K), true, _, rfl, rfl, .inr ⟨d, rfl, e2⟩, .own _, Z.fL, (by show 4 ≤ sizeLine; decide), fun p np => ?_⟩
    have u3 := same_new (o := .lst [V.str "rule", .str part, v, .bl true]) np
    exact ⟨_, rfl, fin p _ ((u1.trans k2).trans u3) (none_of (u1.trans k2) np) upd_same⟩
  · refine run _ _ _ u1 fun d H2 k2 n2 e2 => ?_
    refine ⟨false, Z.ta, (fun z => nomatch z), fun _ => ⟨false, Z.tl, (fun z => nomatch z), fun _ => ⟨true, Z.tt, fun _ a na => ?_, (fun z => nomatch z)⟩⟩⟩
    refine ⟨_, rfl, rfl, rfl, _, _, Z.nTk, .inr ⟨d, rfl, e2⟩, rfl, _, rfl, rfl, rfl, _, _, Z.nTl, .inr ⟨d, rfl, e2⟩, rfl, _, rfl, .ref (aFE X.K), .ref (aFE X.K), true, _, rfl, rfl, .inr ⟨d, rfl, e2⟩, .own _, Z.fT, (by show 4 ≤ sizeLine; decide), fun p np => ?_⟩
    have u3 := same_new (o := .lst [V.str "many", .str "conditions", .int 8, .bl true]) np
    exact ⟨_, rfl, fin p _ ((u1.trans k2).trans u3) (none_of (u1.trans k2) np) upd_same⟩
end
end K18
set_option maxHeartbeats 4000000
/-! == of a thing with itself, inside a builtin. -/
namespace GL
open PySem PySem.Spec PyProof.Rows L2
def IdB : DB := fun x y b _ => (∃ a, x = .ref a ∧ y = .ref a) ∧ b = true
theorem monB_id : MonB IdB := fun _ _ _ _ _ _ d => d
theorem eqB_id {X : Cx} : EqB X 0 IdB := by
  intro A pins s σ H x y u v b sb I rx ry d
  obtain ⟨⟨a, rfl, rfl⟩, rfl⟩ := d
  cases (show u = Value.ref a from rx)
  cases (show v = Value.ref a from ry)
  exact SeqAt.EqAt.same (A := A) (s := s) (.ref a) X.prog X.w X.xe _ ⟨rfl, H, I, fun _ _ e => e⟩
/-- flat things, and what is the same -/
def SelfB : DB := fun x y b H => FlatB x y b H ∨ IdB x y b H
theorem monB_self : MonB SelfB := monB_flat.or monB_id
theorem eqB_self {X : Cx} : EqB X 0 SelfB := eqB_flat.or eqB_id
/-- what is equal to itself -/
def selfV : V → Bool
  | .ref _ => true
  | .non | .bl _ | .int _ | .str _ => true
  | _ => false
theorem self_same {v : V} {H : Hp} (h : selfV v = true) : SelfB v v true H := by
  cases v with
  | ref a => exact .inr ⟨⟨a, rfl, rfl⟩, rfl⟩
  | non => exact .inl ⟨rfl, rfl, rfl⟩
  | bl b => exact .inl ⟨rfl, rfl, by cases b <;> rfl⟩
  | int i => exact .inl ⟨rfl, rfl, by simp [eqV]⟩
  | str s => exact .inl ⟨rfl, rfl, by simp [eqV]⟩
  | _ => cases h
end GL
set_option maxHeartbeats 4000000
namespace K18
open PySem PySem.Spec PyProof.Rows L2 GL StX
abbrev sOddName : Stmt := tp 41
theorem off_kp {H H' : Hp} {p : Addr} (k : ∀ b o, H b = some o → b ≠ p → H' b = some o) : Same (off H p) H' := fun b o e => k b o (off_some e).2 (off_some e).1
theorem Rng.same' {H H' : Hp} {p : Addr} (R : Rng H p) (k : Same H H') : Rng H' p := by
  obtain ⟨x, y, e, r⟩ := R
  exact ⟨x, y, k _ _ e, r⟩
theorem Rng.ne_new' {H : Hp} {p l : Addr} (R : Rng H p) (n : H l = none) : l ≠ p := by
  obtain ⟨x, y, e, _⟩ := R
  rintro rfl
  rw [n] at e
  cases e
/-- what is no name -/
inductive BadO : HO → Prop
  | t : BadO (.tup [.str "a"])
  | l : BadO (.lst [.str "a"])
  | d : BadO (.dK [])
def badF : List V := [.non, .int 1, .int 0, .bl true, .str "", .str "A", .str "a1", .str "a b", .str "abcdefghi", .str "a.", .str ".a", .str "a.b.c", .str "a.abcdefghi", .str " a", .str "a_b", .str "a.B"]
def BadNm (p : Addr) (H : Hp) (v : V) : Prop := v ∈ badF ∨ ∃ a o, v = .ref a ∧ a ≠ p ∧ H a = some o ∧ BadO o
theorem BadNm.ext {p : Addr} {H H' : Hp} {v : V} (h : BadNm p H v) (k : LamX.ExtN H H') : BadNm p H' v := by
  rcases h with h | ⟨a, o, e, n, h, c⟩
  · exact .inl h
  · exact .inr ⟨a, o, e, n, k _ _ h fun x => by cases c <;> exact (fun z => nomatch z), c⟩
theorem BadNm.offp {p : Addr} {H : Hp} {v : V} (h : BadNm p H v) : BadNm p (off H p) v := by
  rcases h with h | ⟨a, o, e, n, h, c⟩
  · exact .inl h
  · exact .inr ⟨a, o, e, n, by rw [off_ne n]; exact h, c⟩
def badB (v : V) : Bool := match v with
  | .str s => decide (s.length ≤ 100) && ((Txt.split s ".").all (fun u => decide (u.length ≤ 1000)) && !nameB s)
  | .non | .bl _ | .int _ => true
  | _ => false
theorem badF_all : ∀ v ∈ badF, badB v = true := by decide +kernel
theorem BadNm.nm {K : PySem.W.Frag} {p : Addr} {H : Hp} {v : V} (h : BadNm p H v) : IsNm K H v false := by
  rcases h with h | ⟨a, o, rfl, n, h, c⟩
  · have z := badF_all v h
    cases v with
    | str s =>
      simp only [badB, Bool.and_eq_true, decide_eq_true_eq, List.all_eq_true, Bool.not_eq_true'] at z
      exact .inl ⟨s, rfl, z.1, z.2.1, z.2.2.symm⟩
    | non => exact .inr ⟨rfl, _, .base .non, kit_ty (by decide +kernel)⟩
    | bl b => exact .inr ⟨rfl, _, .base (.bl b), kit_ty (by decide +kernel)⟩
    | int i => exact .inr ⟨rfl, _, .base (.int i), kit_ty (by decide +kernel)⟩
    | _ => cases z
  · cases c with
    | t => exact .inr ⟨rfl, _, .base (.tup h), kit_ty (by decide +kernel)⟩
    | l => exact .inr ⟨rfl, _, .base (.lst h), kit_ty (by decide +kernel)⟩
    | d => exact .inr ⟨rfl, _, .base (.dK h), kit_ty (by decide +kernel)⟩
theorem BadNm.self {p : Addr} {H : Hp} {v : V} (h : BadNm p H v) : selfV v = true := by
  rcases h with h | ⟨a, o, rfl, _⟩
  · have z := badF_all v h
    cases v <;> first | rfl | cases z
  · rfl
section
variable {P : Program} {w : World} {K : PySem.W.Frag} {mg : Str → Option Value} {base : Heap}
def spOddName (K : PySem.W.Frag) : Sp := fun vs H Q _ => ∃ p : Addr, vs = [.ref p] ∧ Rng H p ∧ ∀ v H', Same (off H p) H' → Rng H' p → BadNm p H' v → Q v H'
theorem scOddName : FnScope ["_law_pot_here", "_law_some"] ["_law_pot_here"] (defScope sOddName) := ⟨rfl, rfl, rfl, by decide +kernel, rfl, by decide +kernel, by decide +kernel⟩
theorem ok_oddName {f : Addr} {fd : FuncData} (F : Fun K "_law_odd_name" "_law_odd_name" sOddName f fd) (pk : DefF P w K mg base "_law_pick" 2 ["_law_pot_here", "_law_some"] (spChoice K)) : FnOk P w K mg base CX0 3 f fd ["_law_pot_here"] (spOddName K) := by
  obtain ⟨fC, fdC, GC_, gC, bC, kC⟩ := pk
  refine F.ok scOddName (fun vs H Q E h => ?_) (fun cdv A outer s H vs Q E hr h => ?_)
  · obtain ⟨p, rfl, _⟩ := h
    rfl
  · obtain ⟨p, rfl, R, k⟩ := h
    refine ⟨_, pss_cons (ps_set (i := 1) scOddName.nd rfl (Or.inl rfl) (pe_lst (pa_cons pe_non (pa_cons pe_int (pa_cons pe_int (pa_cons pe_bl (pa_cons pe_str (pa_cons pe_str (pa_cons pe_str (pa_cons pe_str (pa_cons pe_str (pa_cons pe_str (pa_cons pe_str (pa_cons pe_str (pa_cons pe_str pa_nil)))))))))))))))
      (pss_one (ps_ret (pe_call GC_ hr rfl gC kC bC .nil pass0 (pa_cons (pv 0) (pa_cons (pe_op op_cat (pv 1) (pe_lst (pa_cons pe_str (pa_cons pe_str (pa_cons (pe_tup (pa_cons pe_str pa_nil)) (pa_cons (pe_lst (pa_cons pe_str pa_nil)) (pa_cons pe_dnewK (pa_cons pe_str pa_nil)))))))) pa_nil))))), ?_⟩
    refine ⟨(by show 13 ≤ sizeLine; decide), fun l1 n1 => ?_⟩
    have s1 := same_new (o := .lst [V.non, .int 1, .int 0, .bl true, .str "", .str "A", .str "a1", .str "a b", .str "abcdefghi", .str "a.", .str ".a", .str "a.b.c", .str "a.abcdefghi"]) n1
    have h1 : upd H l1 (.lst [V.non, .int 1, .int 0, .bl true, .str "", .str "A", .str "a1", .str "a b", .str "abcdefghi", .str "a.", .str ".a", .str "a.b.c", .str "a.abcdefghi"]) l1 = some (.lst [V.non, .int 1, .int 0, .bl true, .str "", .str "A", .str "a1", .str "a b", .str "abcdefghi", .str "a.", .str ".a", .str "a.b.c", .str "a.abcdefghi"]) := upd_same
    generalize upd H l1 (.lst [V.non, .int 1, .int 0, .bl true, .str "", .str "A", .str "a1", .str "a b", .str "abcdefghi", .str "a.", .str ".a", .str "a.b.c", .str "a.abcdefghi"]) = H1 at *
    have R1 := R.same' s1
    refine ⟨_, rfl, _, rfl, (by show 1 ≤ sizeLine; decide), fun o0 n0 => ?_⟩
    have s2 := same_new (o := .tup [V.str "a"]) n0
    have h2 : upd H1 o0 (.tup [V.str "a"]) o0 = some (.tup [V.str "a"]) := upd_same
    generalize upd H1 o0 (.tup [V.str "a"]) = H2 at *
    have p0 := R1.ne_new' n0
    have R2 := R1.same' s2
    refine ⟨(by show 1 ≤ sizeLine; decide), fun o1 n1' => ?_⟩
    have s3 := same_new (o := .lst [V.str "a"]) n1'
    have h3 : upd H2 o1 (.lst [V.str "a"]) o1 = some (.lst [V.str "a"]) := upd_same
    generalize upd H2 o1 (.lst [V.str "a"]) = H3 at *
    have p1 := R2.ne_new' n1'
    have R3 := R2.same' s3
    intro o2 n2
    have s4 := same_new (o := .dK []) n2
    have h4 : upd H3 o2 (.dK []) o2 = some (.dK []) := upd_same
    generalize upd H3 o2 (.dK []) = H4 at *
    have p2 := R3.ne_new' n2
    have R4 := R3.same' s4
    refine ⟨(by show 6 ≤ sizeLine; decide), fun l2 n3 => ?_⟩
    have s5 := same_new (o := .lst [V.str " a", .str "a_b", .ref o0, .ref o1, .ref o2, .str "a.B"]) n3
    have h5 : upd H4 l2 (.lst [V.str " a", .str "a_b", .ref o0, .ref o1, .ref o2, .str "a.B"]) l2 = some (.lst [V.str " a", .str "a_b", .ref o0, .ref o1, .ref o2, .str "a.B"]) := upd_same
    generalize upd H4 l2 (.lst [V.str " a", .str "a_b", .ref o0, .ref o1, .ref o2, .str "a.B"]) = H5 at *
    have R5 := R4.same' s5
    refine ⟨l1, l2, _, _, rfl, rfl, s5 _ _ (s4 _ _ (s3 _ _ (s2 _ _ h1))), h5, (by show 19 ≤ sizeLine; decide), fun l3 n4 => ?_⟩
    have s6 := same_new (o := .lst ([V.non, .int 1, .int 0, .bl true, .str "", .str "A", .str "a1", .str "a b", .str "abcdefghi", .str "a.", .str ".a", .str "a.b.c", .str "a.abcdefghi"] ++ [V.str " a", .str "a_b", .ref o0, .ref o1, .ref o2, .str "a.B"])) n4
    have h6 : upd H5 l3 (.lst ([V.non, .int 1, .int 0, .bl true, .str "", .str "A", .str "a1", .str "a b", .str "abcdefghi", .str "a.", .str ".a", .str "a.b.c", .str "a.abcdefghi"] ++ [V.str " a", .str "a_b", .ref o0, .ref o1, .ref o2, .str "a.B"])) l3 = some (.lst ([V.non, .int 1, .int 0, .bl true, .str "", .str "A", .str "a1", .str "a b", .str "abcdefghi", .str "a.", .str ".a", .str "a.b.c", .str "a.abcdefghi"] ++ [V.str " a", .str "a_b", .ref o0, .ref o1, .ref o2, .str "a.B"])) := upd_same
    have p3 := R5.ne_new' n4
    have R6 := R5.same' s6
    generalize upd H5 l3 (.lst ([V.non, .int 1, .int 0, .bl true, .str "", .str "A", .str "a1", .str "a b", .str "abcdefghi", .str "a.", .str ".a", .str "a.b.c", .str "a.abcdefghi"] ++ [V.str " a", .str "a_b", .ref o0, .ref o1, .ref o2, .str "a.B"])) = H6 at *
    have sA := ((((s1.trans s2).trans s3).trans s4).trans s5).trans s6
    refine ⟨p, l3, _, rfl, R6, h6, p3, by show 0 < 19; decide, by show 19 < 1000; decide, fun v Hf mv kp Rf => ?_⟩
    have kd : Same (off H6 p) Hf := off_kp kp
    refine k v Hf (fun b o e => kp b o (sA b o (off_some e).2) (off_some e).1) Rf (BadNm.ext (BadNm.offp (H := H6) ?_) (same_extN kd))
    have g0 := s6 _ _ (s5 _ _ (s4 _ _ (s3 _ _ h2)))
    have g1 := s6 _ _ (s5 _ _ (s4 _ _ h3))
    have g2 := s6 _ _ (s5 _ _ h4)
    rcases List.mem_append.mp mv with h | h
    · exact .inl (by revert h; simp only [badF, List.mem_cons, List.not_mem_nil, or_false]; intro h; rcases h with h | h | h | h | h | h | h | h | h | h | h | h | h <;> simp [h])
    · simp only [List.mem_cons, List.not_mem_nil, or_false] at h
      rcases h with rfl | rfl | rfl | rfl | rfl | rfl
      · exact .inl (by simp [badF])
      · exact .inl (by simp [badF])
      · exact .inr ⟨o0, _, rfl, p0, g0, .t⟩
      · exact .inr ⟨o1, _, rfl, p1, g1, .l⟩
      · exact .inr ⟨o2, _, rfl, p2, g2, .d⟩
      · exact .inl (by simp [badF])
end
end K18
set_option maxHeartbeats 4000000
namespace K18
open PySem PySem.Spec PyProof.Rows L2 GL StX
abbrev psRule : List Str := ["self", "goal", "answer", "when", "moves"]
section
variable {K : PySem.W.Frag} {f : Addr} {fd : FuncData} {e : V}
abbrev RuleD (K : PySem.W.Frag) (e : V) (f : Addr) (fd : FuncData) : Prop := FunD K "__init__" "Rule.__init__" (defArgs (sRule 0)) (defBody (sRule 0)) (defScope (sRule 0)) [] [("when", e), ("moves", .non)] f fd
/-- Rule(g, a, when = w, moves = m) -/
theorem rule_kb2 (F : RuleD K e f fd) : ∃ gU, KBn K fd psRule 3 ["when", "moves"] gU (fun vs zs => vs ++ zs) := by
  obtain ⟨mv, z⟩ := FunD.kbinds0 (ps := psRule) F 3 ["when", "moves"] [] (fun vs _ zs => vs ++ zs) (by simp) (fun q hq => by cases hq) (fun r1 _ r3 => r1.append r3) fun D doc pm an cdv ct us mv ws h1 h2 h3 => by
    match us, mv, ws, h1, h2, h3 with
    | [_, _, _], [], [_, _], _, _, _ => rfl
  exact ⟨_, z⟩
/-- Rule(g, a, when = w) -/
theorem rule_kb1 (F : RuleD K e f fd) : ∃ gU, KBn K fd psRule 3 ["when"] gU (fun vs zs => vs ++ (zs ++ [.non])) := by
  obtain ⟨mv, z⟩ := FunD.kbinds0 (ps := psRule) F 3 ["when"] [("moves", .non)] (fun vs m zs => vs ++ (zs ++ m)) (by simp) (fun q hq => by simp at hq ⊢; exact .inr hq) (fun r1 r2 r3 => r1.append (r3.append r2)) fun D doc pm an cdv ct us mv ws h1 h2 h3 => by
    match us, mv, ws, h1, h2, h3 with
    | [_, _, _], [_], [_], _, _, _ => exact ⟨_, _, _, _, _, _, rfl, rfl, rfl⟩
  exact ⟨_, z⟩
/-- Rule(g, a) -/
theorem rule_kb0 (F : RuleD K e f fd) : ∃ gU, KBn K fd psRule 3 [] gU (fun vs zs => vs ++ ([e, .non] ++ zs)) := by
  obtain ⟨mv, z⟩ := FunD.kbinds0 (ps := psRule) F 3 [] [("when", e), ("moves", .non)] (fun vs m zs => vs ++ (m ++ zs)) (by simp) (fun q hq => hq) (fun r1 r2 r3 => r1.append (r2.append r3)) fun D doc pm an cdv ct us mv ws h1 h2 h3 => by
    match us, mv, ws, h1, h2, h3 with
    | [_, _, _], [_, _], [], _, _, _ => exact ⟨_, _, _, _, _, _, rfl, rfl, ⟨_, _, _, _, _, _, rfl, rfl, rfl⟩⟩
  exact ⟨_, z⟩
end
end K18
set_option maxHeartbeats 4000000
namespace K18
open PySem PySem.Spec PyProof.Rows L2 GL StX
abbrev sMadeR : Stmt := tp 44
/-- how a call ends: made, or refused so -/
inductive Oc
  | made
  | name (v : V)
  | rule (part : Str) (v : V)
  | many
def ocL : Oc → List V
  | .made => [.str "made"]
  | .name v => [.str "name", v, .bl true, .bl true]
  | .rule part v => [.str "rule", .str part, v, .bl true]
  | .many => [.str "many", .str "conditions", .int 8, .bl true]
def ocSelf : Oc → Bool
  | .name v => selfV v
  | .rule _ v => selfV v
  | _ => true
/-- the call's reading serves this end -/
def RunsTo (K : PySem.W.Frag) (oc : Oc) (tl : XK → Hp → VK → Prop) (H : Hp) : Prop := match oc with
  | .made => ∀ E H1 R, Same H H1 → (∀ v H2, Same H1 H2 → R v H2) → tl E H1 R
  | .name v => ∀ E H1 R, Same H H1 → outW (aIA K) [("value", v)] H1 E → tl E H1 R
  | .rule part v => ∀ E H1 R, Same H H1 → outW (aIL K) (rFs part v) H1 E → tl E H1 R
  | .many => ∀ E H1 R, Same H H1 → outW (aTM K) [("limit", .int 8), ("kind", .str "conditions")] H1 E → tl E H1 R
theorem tt_oc {K : PySem.W.Frag} {oc : Oc} {tl : XK → Hp → VK → Prop} {H : Hp} {Q : VK} (h : RunsTo K oc tl H) (fin : ∀ r H3, Same H H3 → H r = none → H3 r = some (.lst (ocL oc)) → Q (.ref r) H3) : TT21 K tl H Q := by
  cases oc with
  | made => exact .inl ⟨h, fin⟩
  | name v => exact .inr (.inl ⟨v, h, fin⟩)
  | rule part v => exact .inr (.inr (.inl ⟨part, v, h, fin⟩))
  | many => exact .inr (.inr (.inr ⟨h, fin⟩))
/-- two lists of the very same things -/
theorem lst_self {H : Hp} {a c : Addr} {xs : List V} (ha : H a = some (.lst xs)) (hc : H c = some (.lst xs)) (s : ∀ v ∈ xs, selfV v = true) : LstB SelfB (.ref a) (.ref c) true H := by
  refine ⟨a, c, xs, xs, fun _ => true, rfl, rfl, ha, hc, rfl, fun i x y _ e1 e2 => ?_, ?_⟩
  · obtain rfl : x = y := Option.some.inj (e1.symm.trans e2)
    exact self_same (s x (List.mem_of_getElem? e1))
  · unfold PySem.GE.allB
    simp
theorem ocL_self {oc : Oc} (h : ocSelf oc = true) : ∀ v ∈ ocL oc, selfV v = true := by
  intro v hv
  cases oc <;> simp only [ocL, List.mem_cons, List.not_mem_nil, or_false] at hv
  · subst hv
    rfl
  · rcases hv with rfl | rfl | rfl | rfl <;> first | rfl | exact h
  · rcases hv with rfl | rfl | rfl | rfl <;> first | rfl | exact h
  · rcases hv with rfl | rfl | rfl | rfl <;> rfl
end K18
set_option maxHeartbeats 4000000
namespace K18
open PySem PySem.Spec PyProof.Rows L2 GL StX
abbrev lamMade : Str := "_law_made.<locals>.<lambda>"
theorem RunsTo.mono {K : PySem.W.Frag} {oc : Oc} {t1 t2 : XK → Hp → VK → Prop} {H : Hp} (h : RunsTo K oc t1 H) (k : ∀ E H1 R, Same H H1 → t1 E H1 R → t2 E H1 R) : RunsTo K oc t2 H := by
  cases oc with
  | made => exact fun E H1 R s o => k E H1 R s (h E H1 R s o)
  | name v => exact fun E H1 R s o => k E H1 R s (h E H1 R s o)
  | rule part v => exact fun E H1 R s o => k E H1 R s (h E H1 R s o)
  | many => exact fun E H1 R s o => k E H1 R s (h E H1 R s o)
structure LM (P : Program) (w : World) (K : PySem.W.Frag) (mg : Str → Option Value) (base : Heap) : Prop where
  told : ∃ f fd, Fun K "_law_told" "_law_told" sTold f fd ∧ mg "_law_told" = some (.ref f) ∧ Binds K fd ["_law_call"] []
  F : EF K mg
  U : UF K mg
  mU : ∃ f fd gU, Mk K (aRu K) f ∧ FnOk P w K mg base (L2.CX P w) 5 f fd psRule (spRuleI K) ∧ KBn K fd psRule 3 ["when", "moves"] gU (fun vs zs => vs ++ zs)
/-- Rule of these parts, as it is asked in the heap H1 -/
def MakeR (K : PySem.W.Frag) (g a wh mv : V) : XK → Hp → VK → Prop := fun E H1 R => ∀ x dx', H1 x = none → H1 dx' = none → dx' ≠ x → spRuleI K [.ref x, g, a, wh, mv] (upd (upd H1 dx' (.own x)) x (.ins (aRu K) dx' [])) (fun v H3 => v = .non ∧ R (.ref x) H3) E
section
variable {P : Program} {w : World} {K : PySem.W.Frag} {mg : Str → Option Value} {base : Heap}
def spMadeR (K : PySem.W.Frag) (T : List (Addr × Str)) : Sp := fun vs H Q _ => ∃ (l du : Addr) (g a wh mv : V) (oc : Oc), vs = [.ref l, .ref du] ∧ H l = some (.lst [g, a, wh, mv]) ∧ H du = some (.lst (ocL oc)) ∧ ocSelf oc = true ∧ LamX.Tabs T H ∧
  (∀ G, LamX.ExtN H G → RunsTo K oc (MakeR K g a wh mv) G) ∧ ∀ H', LamX.ExtN H H' → LamX.Tabs T H' → Q (.bl true) H'
abbrev nMadeR : List Str := ["_law_parts_now", "_law_due"]
theorem scMadeR : FnScope nMadeR ["_law_parts_now", "_law_due"] (defScope sMadeR) := ⟨rfl, rfl, rfl, by decide +kernel, rfl, by decide +kernel, by decide +kernel⟩
theorem ok_lmade {f c tb : Addr} {T : List (Addr × Str)} {fd : FuncData} (F : Fun K "_law_made" "_law_made" sMadeR f fd) (hc : fd.code = .ref c) (TB : LamX.TabB base mg c tb) (mT : (tb, lamMade) ∈ T) (one : ∀ p ∈ T, p.1 = tb → p.2 = lamMade) (X : LM P w K mg base) : FnG P w K mg base CX0 9 f fd ["_law_parts_now", "_law_due"] (spMadeR K T) := by
  obtain ⟨fT, fdT, FT, gT, bT⟩ := X.told
  obtain ⟨fU, fdU, gU, MU, GU, KU⟩ := X.mU
  have U := X.U
  obtain ⟨ocT, odT, kVT, docT, pmT, anT, cdT, ctT, oslT, rfl, lkT, hcT⟩ := FT.ex
  have kT := FT.kp
  obtain ⟨oc_, od, kV, doc, pm, an, cdv, ct, osl, rfl, lk, hcd⟩ := F.ex
  obtain rfl : cdv = .ref c := hc
  refine FnG.ofBody lk hcd scMadeR (fun vs H Q E h => ?_) (fun A outer sh H vs Q E gd hr h => ?_)
  · obtain ⟨l, du, g, a, wh, mv, oc, rfl, _⟩ := h
    rfl
  · obtain ⟨l, du, g, a, wh, mv, oc, rfl, hl, hdu, self, tabs, run, k⟩ := h
    suffices z : ∃ y, PSs (cxOf CX0 P w K mg base nMadeR "_law_made" (defScope sMadeR) f (.ref c) A outer sh H E).nox (defBody sMadeR) y ∧ y { nx := fun _ H' => Q .non H', rt := Q } (L2.start nMadeR [.ref l, .ref du]) H by
      obtain ⟨y, h, q⟩ := z
      exact ⟨y, h.nox, q⟩
    refine ⟨_, pss_one (ps_ret (pe_cmpR (op_eqL monB_self eqB_self (hr.mono (by decide))) (pe_told (T := T) (TT := TT21 K) (k := 6) rfl gT kT lkT hcT bT scTold rfl (.inl rfl) (told21 (k := 3) rfl X.F).gives TB rfl mT one hr (LamX.lamS_by (sc := defScope sMadeR) (by decide +kernel)) rfl (fun _ _ _ _ _ => rfl)
      (fun A outer s H E f c' hA hr6 => pe_makeK (ks := ["when", "moves"]) MU GU hr6 rfl U.gU KU (passE (takes_of rfl rfl rfl rfl)) (pa_cons (pe_ix (show IxR _ (rIxL K) from ix_list) (pv 0) pe_int (fun _ _ => rfl)) (pa_cons (pe_ix (show IxR _ (rIxL K) from ix_list) (pv 0) pe_int (fun _ _ => rfl)) pa_nil))
        (pk_cons (pe_ix (show IxR _ (rIxL K) from ix_list) (pv 0) pe_int (fun _ _ => rfl)) (pk_cons (pe_ix (show IxR _ (rIxL K) from ix_list) (pv 0) pe_int (fun _ _ => rfl)) pk_nil)))) (pv 1) (nomark _))), ?_⟩
    refine ⟨tabs, fun G1 x1 t1 => ?_⟩
    refine tt_oc (RunsTo.mono (run G1 x1) fun E H1 R s o => ?_) fun r G2 s2 n2 e2 => ?_
    · have hG : H1 l = some (.lst [g, a, wh, mv]) := s _ _ (x1 _ _ hl fun _ z => by cases z)
      exact ⟨_, rfl, l, _, _, _, rfl, rfl, SqL.of hG, rfl, _, rfl, l, _, _, _, rfl, rfl, SqL.of hG, rfl, _, rfl, l, _, _, _, rfl, rfl, SqL.of hG, rfl, _, rfl, l, _, _, _, rfl, rfl, SqL.of hG, rfl, rfl, rfl, fun x dx hx hd ne => o x dx hx hd ne⟩
    · have hdu2 : G2 du = some (.lst (ocL oc)) := s2 _ _ (x1 _ _ hdu fun _ z => by cases z)
      exact ⟨_, rfl, true, lst_self e2 hdu2 (ocL_self self), fun H' s3 => k H' ((x1.trans (same_extN s2)).trans (same_extN s3)) (Tabs.same (Tabs.same t1 s2) s3)⟩
end
end K18
set_option maxHeartbeats 4000000
namespace K18
open PySem PySem.Spec PyProof.Rows L2 GL StX
/-- a name -/
def NameS (s : Str) : Prop := s.length ≤ 100 ∧ (∀ u ∈ Txt.split s ".", u.length ≤ 1000) ∧ nameB s = true
theorem NameS.nm {K : PySem.W.Frag} {H : Hp} {s : Str} (h : NameS s) : IsNm K H (.str s) true := .inl ⟨s, rfl, h.1, h.2.1, h.2.2.symm⟩
def nameD (s : Str) : Bool := decide (s.length ≤ 100) && ((Txt.split s ".").all (fun u => decide (u.length ≤ 1000)) && nameB s)
theorem NameS.of {s : Str} (h : nameD s = true) : NameS s := by
  simp only [nameD, Bool.and_eq_true, decide_eq_true_eq, List.all_eq_true] at h
  exact ⟨h.1, h.2.1, h.2.2⟩
/-- rows whose names and sides are right -/
def RowsOk (rows : List (Str × Str × Rat)) : Prop := ∀ r ∈ rows, NameS r.1 ∧ sideB r.2.1 = true
section
variable {K : PySem.W.Frag}
theorem conds_cond {H : Hp} {xs : List V} {rows : List (Str × Str × Rat)} (h : CondsAt K H xs rows) (ok : RowsOk rows) : ∀ v ∈ xs, CondB K H v true := by
  intro v hv
  obtain ⟨i, hi⟩ := List.getElem?_of_mem hv
  have il : i < rows.length := by
    rw [← h.1]
    exact (List.getElem?_eq_some_iff.mp hi).1
  obtain ⟨c, num, rfl, hc, hn⟩ := h.2 i v rows[i] hi (List.getElem?_eq_getElem il)
  obtain ⟨o1, o2⟩ := ok rows[i] (List.getElem_mem il)
  exact .inr ⟨c, _, rfl, hc, .inr ⟨_, _, _, true, true, true, rfl, o1.nm, .inl ⟨_, rfl, o2.symm⟩, .inl ⟨rfl, _, hn⟩, rfl⟩⟩
theorem CondsAt.same {H H' : Hp} {xs : List V} {rows : List (Str × Str × Rat)} (h : CondsAt K H xs rows) (k : Same H H') : CondsAt K H' xs rows := ⟨h.1, fun i v r e1 e2 => by
  obtain ⟨c, num, ev, hc, hn⟩ := h.2 i v r e1 e2
  exact ⟨c, num, ev, k _ _ hc, hn.same k⟩⟩
/-- a rule without moves is made -/
theorem rule_ok {H : Hp} {x dx aw : Addr} {g a : Str} {xs : List V} {t : Value} {rows : List (Str × Str × Rat)} {Q : VK} {E : XK} (hx : H x = none) (hd : H dx = none) (ng : NameS g) (na : NameS a) (ty : TyX K H (.ref aw) t) (kt : PySem.W.kitAny K t [.type "list", .type "tuple"] = some true)
    (sq : SqL K H aw xs ∨ SqT K H aw xs) (cs : CondsAt K H xs rows) (ok : RowsOk rows) (l8 : xs.length ≤ 8) (k : ∀ H', Same H H' → RuleAt K H' x g a rows [] → Q .non H') :
    spRuleI K [.ref x, .str g, .str a, .ref aw, .non] (upd (upd H dx (.own x)) x (.ins (aRu K) dx [])) Q E := by
  have up : Same H (upd (upd H dx (.own x)) x (.ins (aRu K) dx [])) := fun b o e => by rw [upd_ne (ne_of_none e hx), upd_ne (ne_of_none e hd)]; exact e
  have ex : upd (upd H dx (.own x)) x (.ins (aRu K) dx []) x = some (.ins (aRu K) dx []) := upd_same
  refine ⟨x, dx, _, _, _, _, rfl, .inr ⟨fun v hv => ?_, fun H1 s1 => ?_⟩⟩
  · simp only [List.mem_cons, List.not_mem_nil, or_false] at hv
    rcases hv with rfl | rfl
    · exact ng.nm
    · exact na.nm
  have u1 := up.trans s1
  refine ⟨_, rfl, .inr ⟨aw, xs, t, rfl, TyX.same' ty u1, kt, sq.imp (fun h => L2.SqL.ext h u1) (fun h => L2.SqT.ext h u1), by omega, .inl ⟨conds_cond (cs.same u1) ok, fun H2 s2 => ?_⟩⟩⟩
  refine ⟨_, rfl, .inl ⟨rfl, ?_⟩⟩
  have u2 := u1.trans s2
  refine ⟨s2 _ _ (s1 _ _ ex), aw, xs, rfl, sq.imp (fun h => L2.SqL.ext h u2) (fun h => L2.SqT.ext h u2), .inr ⟨rows, [], [], l8, cs.same u2, .inl ⟨rfl, rfl, rfl⟩, fun H' tw md ys kp pm so hr hm hs => k H' (fun b o e => kp b o (ne_of_none e hx) (u2 b o e)) ⟨dx, tw, md, hs, hr, ?_⟩⟩⟩
  have y0 : ys = [] := List.perm_nil.mp pm
  subst y0
  exact hm
end
end K18
set_option maxHeartbeats 4000000
namespace K18
open PySem PySem.Spec PyProof.Rows L2 GL StX
abbrev sChangesR : Stmt := tp 45
abbrev lamChanges : Str := "_law_changes.<locals>.<lambda>"
/-- as MakeR, in all that grows out of the heap -/
def MakeS (K : PySem.W.Frag) (g a wh mv : V) : XK → Hp → VK → Prop := fun E H1 R => ∀ H2, Same H1 H2 → MakeR K g a wh mv E H2 R
theorem RunsTo.ext {K : PySem.W.Frag} {oc : Oc} {g a wh mv : V} {H : Hp} (h : RunsTo K oc (MakeR K g a wh mv) H) : RunsTo K oc (MakeS K g a wh mv) H := by
  cases oc with
  | made => exact fun E H1 R s o H2 s2 => h E H2 R (s.trans s2) fun v H3 s3 => o v H3 (s2.trans s3)
  | name v => exact fun E H1 R s o H2 s2 => h E H2 R (s.trans s2) (o.same s2)
  | rule part v => exact fun E H1 R s o H2 s2 => h E H2 R (s.trans s2) (o.same s2)
  | many => exact fun E H1 R s o H2 s2 => h E H2 R (s.trans s2) (o.same s2)
structure LC (P : Program) (w : World) (K : PySem.W.Frag) (mg : Str → Option Value) (base : Heap) : Prop where
  M : LM P w K mg base
  mU1 : ∃ f fd gU, Mk K (aRu K) f ∧ FnOk P w K mg base (L2.CX P w) 5 f fd psRule (spRuleI K) ∧ KBn K fd psRule 3 ["when"] gU (fun vs zs => vs ++ (zs ++ [.non]))
  ch : ∃ f, Meth K (aRu K) "changed" f ∧ FnK P w K mg base (L2.CX P w) 7 f "self" (spChanged K)
  E : UE P w K mg base
  eq : ∃ f, OwnEq K (aRu K) f ∧ FnR P w K mg base CX0 4 f (spRuleEq K)
section
variable {P : Program} {w : World} {K : PySem.W.Frag} {mg : Str → Option Value} {base : Heap}
theorem kit_list : PySem.W.kitAny K (.type "list") [.type "list", .type "tuple"] = some true := by
  have a : PySem.W.kitOne K (.type "list") (.type "list") = some true := kit_ty (by decide +kernel)
  simp [PySem.W.kitAny, a]
/-- the law's own rule -/
theorem base_ok {H : Hp} {x dx t1 l1 : Addr} {Q : VK} {E : XK} (hx : H x = none) (hd : H dx = none) (ht : H t1 = some (.tup [.str "x", .str "from", .int 1])) (hl : H l1 = some (.lst [.ref t1])) (k : ∀ H', Same H H' → RuleAt K H' x "a" "b" [("x", "from", ((1 : Int) : Rat))] [] → Q .non H') :
    spRuleI K [.ref x, .str "a", .str "b", .ref l1, .non] (upd (upd H dx (.own x)) x (.ins (aRu K) dx [])) Q E := by
  refine rule_ok hx hd (NameS.of (by decide +kernel)) (NameS.of (by decide +kernel)) (.base (.lst hl)) kit_list (.inl (SqL.of hl)) ⟨rfl, fun i v r e1 e2 => ?_⟩ (fun r hr => ?_) (by show 1 ≤ 8; decide) k
  · match i, e1, e2 with
    | 0, e1, e2 =>
      cases e1
      cases e2
      exact ⟨t1, .int 1, rfl, ht, .inl ⟨1, rfl, rfl⟩⟩
  · obtain rfl : r = (("x" : Str), ("from" : Str), ((1 : Int) : Rat)) := by simpa using hr
    exact ⟨NameS.of (by decide +kernel), by decide +kernel⟩
theorem RuleAt.ext {H H' : Hp} {s : Addr} {g a : Str} {rows : List (Str × Str × Rat)} {kvs : List (Key × V)} (h : RuleAt K H s g a rows kvs) (k : LamX.ExtN H H') : RuleAt K H' s g a rows kvs := by
  obtain ⟨dx, tw, md, e, ⟨ys, hy, r⟩, hm⟩ := h
  have n1 : ∀ {b : Addr} {o : HO}, H b = some o → (∀ ps, o ≠ .tbl ps) → H' b = some o := fun e n => k _ _ e n
  exact ⟨dx, tw, md, n1 e (fun _ z => by cases z), ⟨ys, n1 hy (fun _ z => by cases z), r.keep (fun b zs e => n1 e (fun _ z => by cases z)) fun p q h => by
    obtain ⟨d, e⟩ := h
    exact ⟨d, n1 e (fun _ z => by cases z)⟩⟩, n1 hm (fun _ z => by cases z)⟩
def spChangesR (K : PySem.W.Frag) (T : List (Addr × Str)) : Sp := fun vs H Q _ => ∃ (l du : Addr) (g a wh mv : V) (oc : Oc), vs = [.ref l, .ref du] ∧ H l = some (.lst [g, a, wh, mv]) ∧ H du = some (.lst (ocL oc)) ∧ ocSelf oc = true ∧ LamX.Tabs T H ∧
  (∀ G, LamX.ExtN H G → RunsTo K oc (MakeR K g a wh mv) G) ∧ ∀ H', LamX.ExtN H H' → LamX.Tabs T H' → Q (.bl true) H'
abbrev nChangesR : List Str := ["_law_parts_now", "_law_due", "_law_base", "_law_first", "_law_second", "_law_third", "_law_last", "_law_told_here"]
theorem scChangesR : FnScope nChangesR ["_law_parts_now", "_law_due"] (defScope sChangesR) := ⟨rfl, rfl, rfl, by decide +kernel, rfl, by decide +kernel, by decide +kernel⟩
theorem ok_lchanges {f c tb : Addr} {T : List (Addr × Str)} {fd : FuncData} (F : Fun K "_law_changes" "_law_changes" sChangesR f fd) (hc : fd.code = .ref c) (TB : LamX.TabB base mg c tb) (mT : (tb, lamChanges) ∈ T) (one : ∀ p ∈ T, p.1 = tb → p.2 = lamChanges) (X : LC P w K mg base) : FnG P w K mg base CX0 10 f fd ["_law_parts_now", "_law_due"] (spChangesR K T) := by
  obtain ⟨fT, fdT, FT, gT, bT⟩ := X.M.told
  obtain ⟨fU, fdU, gU, MU, GU, KU⟩ := X.mU1
  obtain ⟨fC, mC, GC_⟩ := X.ch
  obtain ⟨fE, oE, GE_⟩ := X.eq
  have U := X.M.U
  have G0 := FnOk.ground GU
  obtain ⟨ocT, odT, kVT, docT, pmT, anT, cdT, ctT, oslT, rfl, lkT, hcT⟩ := FT.ex
  have kT := FT.kp
  obtain ⟨oc_, od, kV, doc, pm, an, cdv, ct, osl, rfl, lk, hcd⟩ := F.ex
  obtain rfl : cdv = .ref c := hc
  refine FnG.ofBody lk hcd scChangesR (fun vs H Q E h => ?_) (fun A outer sh H vs Q E gd hr h => ?_)
  · obtain ⟨l, du, g, a, wh, mv, oc, rfl, _⟩ := h
    rfl
  · obtain ⟨l, du, g, a, wh, mv, oc, rfl, hl, hdu, self, tabs, run, k⟩ := h
    suffices z : ∃ y, PSs (cxOf CX0 P w K mg base nChangesR "_law_changes" (defScope sChangesR) f (.ref c) A outer sh H E).nox (defBody sChangesR) y ∧ y { nx := fun _ H' => Q .non H', rt := Q } (L2.start nChangesR [.ref l, .ref du]) H by
      obtain ⟨y, h, q⟩ := z
      exact ⟨y, h.nox, q⟩
    refine ⟨_, pss_cons (ps_set (i := 2) scChangesR.nd rfl (Or.inr rfl) (pe_makeK (ks := ["when"]) MU G0 (hr.mono (by decide)) rfl U.gU KU pass0 (pa_cons pe_str (pa_cons pe_str pa_nil)) (pk_cons (pe_lst (pa_cons (pe_tup (pa_cons pe_str (pa_cons pe_str (pa_cons pe_int pa_nil)))) pa_nil)) pk_nil)))
      (pss_cons (ps_asg (pv 0) (pg_unl (by rfl) (pgs_cons (pg_name (i := 3) scChangesR.nd rfl (.inr rfl)) (pgs_cons (pg_name (i := 4) scChangesR.nd rfl (.inr rfl)) (pgs_cons (pg_name (i := 5) scChangesR.nd rfl (.inr rfl)) (pgs_cons (pg_name (i := 6) scChangesR.nd rfl (.inr rfl)) pgs_nil))))))
      (pss_cons (ps_set (i := 7) scChangesR.nd rfl (Or.inl rfl) (pe_told (T := T) (TT := TT21 K) (k := 7) rfl gT kT lkT hcT bT scTold rfl (.inl rfl) (told21 (k := 4) rfl X.M.F).gives TB rfl mT one hr (LamX.lamS_by (sc := defScope sChangesR) (by decide +kernel)) rfl (fun _ _ _ _ _ => rfl)
        (fun A outer s H E f c' hA hr7 => pe_methK (ks := ["goal", "answer", "when", "moves"]) (pv 2) U.cl mC GC_ hr7 (passE (takes_of rfl rfl rfl rfl)) (pk_cons (pv 3) (pk_cons (pv 4) (pk_cons (pv 5) (pk_cons (pv 6) pk_nil)))) (by decide) (by decide) (by show 4 ≤ sizeLine; decide))))
      (pss_one (ps_ret (pe_and (pe_cmpR (op_eqL monB_self eqB_self (hr.mono (by decide))) (pv 7) (pv 1) (nomark _))
        (pe_one (pe_cmpR (op_eqO oE GE_ (hr.mono (by decide)) pass0) (pv 2) (pe_makeK (ks := ["when"]) MU G0 (hr.mono (by decide)) rfl U.gU KU pass0 (pa_cons pe_str (pa_cons pe_str pa_nil)) (pk_cons (pe_lst (pa_cons (pe_tup (pa_cons pe_str (pa_cons pe_str (pa_cons pe_int pa_nil)))) pa_nil)) pk_nil)) (nomark _)))))))), ?_⟩
    refine ⟨(by show 3 ≤ sizeLine; decide), fun t1 n1 => ⟨(by show 1 ≤ sizeLine; decide), fun l1 m1 => ⟨rfl, rfl, fun x dx hx hd ne => ?_⟩⟩⟩
    have u1 := same_new (o := .tup [V.str "x", .str "from", .int 1]) n1
    have h1 : upd H t1 (.tup [V.str "x", .str "from", .int 1]) t1 = some (.tup [V.str "x", .str "from", .int 1]) := upd_same
    generalize upd H t1 (.tup [V.str "x", .str "from", .int 1]) = Ha at *
    have u2 := same_new (o := .lst [V.ref t1]) m1
    have h2 : upd Ha l1 (.lst [V.ref t1]) l1 = some (.lst [V.ref t1]) := upd_same
    generalize upd Ha l1 (.lst [V.ref t1]) = Hb at *
    change spRuleI K [.ref x, .str "a", .str "b", .ref l1, .non] _ _ E0
    refine base_ok hx hd (u2 _ _ h1) h2 fun Hc s3 hb => ⟨rfl, ?_⟩
    have s13 := (u1.trans u2).trans s3
    refine ⟨_, rfl, l, _, rfl, SqL.of (s13 _ _ hl), rfl, _, _, rfl, _, _, rfl, _, _, rfl, _, _, rfl, rfl, ?_⟩
    refine ⟨Tabs.same tabs s13, fun G1 x1 t1' => ?_⟩
    have xA : LamX.ExtN H G1 := (same_extN s13).trans x1
    have hbG := hb.ext x1
    refine tt_oc (RunsTo.mono (RunsTo.ext (run G1 xA)) fun E H1 R s o => ?_) fun r G2 s2 n2 e2 => ?_
    · obtain ⟨dx2, tw, md, eb, _⟩ := hbG.same s
      refine ⟨_, rfl, x, dx2, _, rfl, eb, rfl, _, rfl, _, rfl, _, rfl, _, rfl, rfl, x, dx2, _, _, _, _, rfl, eb, (by show 4 < 64; decide), .inr ⟨by decide +kernel, fun H2 x' dx' s' hx' hd' ne' => ?_⟩⟩
      exact o H2 s' x' dx' hx' hd' ne'
    · have hdu2 : G2 du = some (.lst (ocL oc)) := s2 _ _ (x1 _ _ (s13 _ _ hdu) fun _ z => by cases z)
      refine ⟨_, rfl, _, rfl, true, lst_self e2 hdu2 (ocL_self self), fun G3 s3' => ⟨_, rfl, iteT ?_⟩⟩
      refine ⟨_, rfl, (by show 3 ≤ sizeLine; decide), fun t2 n2' => ⟨(by show 1 ≤ sizeLine; decide), fun l2 m2 => ⟨rfl, rfl, fun y dy hy hdy ney => ?_⟩⟩⟩
      have v1 := same_new (o := .tup [V.str "x", .str "from", .int 1]) n2'
      have w1 : upd G3 t2 (.tup [V.str "x", .str "from", .int 1]) t2 = some (.tup [V.str "x", .str "from", .int 1]) := upd_same
      generalize upd G3 t2 (.tup [V.str "x", .str "from", .int 1]) = G4 at *
      have v2 := same_new (o := .lst [V.ref t2]) m2
      have w2 : upd G4 l2 (.lst [V.ref t2]) l2 = some (.lst [V.ref t2]) := upd_same
      generalize upd G4 l2 (.lst [V.ref t2]) = G5 at *
      change spRuleI K [.ref y, .str "a", .str "b", .ref l2, .non] _ _ E0
      refine base_ok hy hdy (v2 _ _ w1) w2 fun G6 s6 hb2 => ⟨rfl, ?_⟩
      have sZ := (((s2.trans s3').trans v1).trans v2).trans s6
      have hbZ := hbG.same sZ
      have hbT := hbZ
      obtain ⟨dx2, tw, md, eb, _⟩ := hbT
      refine ⟨x, dx2, _, .ref (aRu K), rfl, eb, hb2.ty X.E, (by unfold PySem.W.notFirst; rw [beq_self_eq_true, Bool.true_or]), x, .ref y, _, _, _, rfl, .inr ⟨hbZ, y, _, _, _, rfl, hb2, fun H' s7 => ?_⟩⟩
      simp only [decide_true, Bool.and_self]
      exact k H' ((xA.trans (same_extN sZ)).trans (same_extN s7)) (Tabs.same (Tabs.same t1' sZ) s7)
end
end K18
set_option maxHeartbeats 4000000
namespace K18
open PySem PySem.Spec PyProof.Rows L2 GL StX
abbrev sUnknown : Stmt := tp 47
abbrev lamUnknown : Str := "_law_unknown_right.<locals>.<lambda>"
/-- the one sorted list of three names -/
theorem only3 {a b c : Str} {t : List Str} (h : ([a, b, c].all fun x => [a, b, c].all fun y => [a, b, c].all fun z => !(sortedS [x, y, z]) || (!([x, y, z].isPerm [a, b, c]) || decide ([x, y, z] = t))) = true) {ys : List Str} (pm : ys.Perm [a, b, c]) (so : sortedS ys = true) : ys = t := by
  have l := pm.length_eq
  match ys, l, pm, so with
  | [x, y, z], _, pm, so =>
    have hx : x ∈ [a, b, c] := pm.mem_iff.mp (by simp)
    have hy : y ∈ [a, b, c] := pm.mem_iff.mp (by simp)
    have hz : z ∈ [a, b, c] := pm.mem_iff.mp (by simp)
    have k := List.all_eq_true.mp (List.all_eq_true.mp (List.all_eq_true.mp h x hx) y hy) z hz
    rw [so, List.isPerm_iff.mpr pm] at k
    simpa using k
theorem only2 {a b : Str} {t : List Str} (h : ([a, b].all fun x => [a, b].all fun y => !(sortedS [x, y]) || (!([x, y].isPerm [a, b]) || decide ([x, y] = t))) = true) {ys : List Str} (pm : ys.Perm [a, b]) (so : sortedS ys = true) : ys = t := by
  have l := pm.length_eq
  match ys, l, pm, so with
  | [x, y], _, pm, so =>
    have hx : x ∈ [a, b] := pm.mem_iff.mp (by simp)
    have hy : y ∈ [a, b] := pm.mem_iff.mp (by simp)
    have k := List.all_eq_true.mp (List.all_eq_true.mp h x hx) y hy
    rw [so, List.isPerm_iff.mpr pm] at k
    simpa using k
theorem unk1 {ys : List Str} (pm : ys.Perm ["goal", "zz", "bb"]) (so : sortedS ys = true) : ys = ([("bb" : Str), "goal", "zz"] : List Str) := only3 (by decide +kernel) pm so
theorem unk2 {ys : List Str} (pm : ys.Perm ["wheno", "answer"]) (so : sortedS ys = true) : ys = ([("answer" : Str), "wheno"] : List Str) := only2 (by decide +kernel) pm so
/-- what stands behind G0, with the tables -/
structure BX (T : List (Addr × Str)) (G0 G : Hp) : Prop where
  ex : LamX.ExtN G0 G
  tb : LamX.Tabs T G
theorem BX.stE {T : List (Addr × Str)} {G0 G G' : Hp} (b : BX T G0 G) (e : LamX.ExtN G G') (t : LamX.Tabs T G') : BX T G0 G' := ⟨b.1.trans e, t⟩
theorem BX.stS {T : List (Addr × Str)} {G0 G G' : Hp} (b : BX T G0 G) (s : Same G G') : BX T G0 G' := ⟨b.1.trans (same_extN s), Tabs.same b.2 s⟩
theorem tabs_updL {T : List (Addr × Str)} {H : Hp} {D : Addr} {xs : List V} {o : HO} (t : LamX.Tabs T H) (e : H D = some (.lst xs)) : LamX.Tabs T (upd H D o) := fun x hx => by
  obtain ⟨ps, h1, h2, h3⟩ := t x hx
  refine ⟨ps, ?_, h2, fun pos cv hc => ?_⟩
  · rw [upd_ne (fun z => by rw [z, e] at h1; cases h1)]
    exact h1
  · obtain ⟨c, e1, e2⟩ := h3 pos cv hc
    refine ⟨c, e1, ?_⟩
    rw [upd_ne (fun z => by rw [z, e] at e2; exact codeO_lst (Option.some.inj e2).symm)]
    exact e2
theorem BX.upL {T : List (Addr × Str)} {G0 G : Hp} {W : Addr} {xs : List V} {o : HO} (b : BX T G0 G) (n : ∀ o, G0 W = some o → (∀ ps, o ≠ .tbl ps) → False) (e : G W = some (.lst xs)) : BX T G0 (upd G W o) := ⟨fun c o' ec nt => by
  by_cases h : c = W
  · rw [h] at ec
    exact (n _ ec nt).elim
  · rw [upd_ne h]
    exact b.1 c o' ec nt, tabs_updL b.2 e⟩
theorem BX.new {T : List (Addr × Str)} {G0 G : Hp} {W : Addr} (b : BX T G0 G) (n : G W = none) : ∀ o, G0 W = some o → (∀ ps, o ≠ .tbl ps) → False := fun o e nt => by
  have z := b.1 _ _ e nt
  rw [n] at z
  cases z
def kdU (x : PyData) : PyData := .list [.str "name", x, .bool true, .bool true]
structure LU (P : Program) (w : World) (K : PySem.W.Frag) (mg : Str → Option Value) (base : Heap) (e : V) : Prop where
  M : LM P w K mg base
  mU0 : ∃ f fd gU, Mk K (aRu K) f ∧ FnOk P w K mg base (L2.CX P w) 5 f fd psRule (spRuleI K) ∧ KBn K fd psRule 3 [] gU (fun vs zs => vs ++ ([e, .non] ++ zs))
  ch : ∃ f, Meth K (aRu K) "changed" f ∧ FnK P w K mg base (L2.CX P w) 7 f "self" (spChanged K)
  e0 : ∃ eA t, e = .ref eA ∧ (∀ H, TyX K H (.ref eA) t) ∧ PySem.W.kitAny K t [.type "list", .type "tuple"] = some true ∧ ∀ H, SqT K H eA []
section
variable {P : Program} {w : World} {K : PySem.W.Frag} {mg : Str → Option Value} {base : Heap}
def spUnknown (T : List (Addr × Str)) : Sp := fun vs H Q _ => vs = [] ∧ LamX.Tabs T H ∧ ∀ H', LamX.ExtN H H' → LamX.Tabs T H' → Q (.bl true) H'
abbrev nUnknown : List Str := ["_law_base", "_law_told_here"]
theorem scUnknown : FnScope nUnknown [] (defScope sUnknown) := ⟨rfl, rfl, rfl, by decide +kernel, rfl, by decide +kernel, by decide +kernel⟩
theorem ok_unknown {f c tb : Addr} {T : List (Addr × Str)} {fd : FuncData} {e : V} (F : Fun K "_law_unknown_right" "_law_unknown_right" sUnknown f fd) (hc : fd.code = .ref c) (TB : LamX.TabB base mg c tb) (mT : (tb, lamUnknown) ∈ T) (one : ∀ p ∈ T, p.1 = tb → p.2 = lamUnknown) (X : LU P w K mg base e) : FnG P w K mg base CX0 10 f fd [] (spUnknown T) := by
  obtain ⟨fT, fdT, FT, gT, bT⟩ := X.M.told
  obtain ⟨fU, fdU, gU, MU, GU, KU⟩ := X.mU0
  obtain ⟨fC, mC, GC_⟩ := X.ch
  obtain ⟨eA, et, rfl, ety, ekt, esq⟩ := X.e0
  have U := X.M.U
  have G0 := FnOk.ground GU
  obtain ⟨ocT, odT, kVT, docT, pmT, anT, cdT, ctT, oslT, rfl, lkT, hcT⟩ := FT.ex
  have kT := FT.kp
  obtain ⟨oc_, od, kV, doc, pm, an, cdv, ct, osl, rfl, lk, hcd⟩ := F.ex
  obtain rfl : cdv = .ref c := hc
  refine FnG.ofBody lk hcd scUnknown (fun vs H Q E h => ?_) (fun A outer sh H vs Q E gd hr h => ?_)
  · obtain ⟨rfl, _⟩ := h
    rfl
  · obtain ⟨rfl, tabs, k⟩ := h
    have hu := hr.units
    suffices z : ∃ y, PSs (cxOf CX0 P w K mg base nUnknown "_law_unknown_right" (defScope sUnknown) f (.ref c) A outer sh H E).nox (defBody sUnknown) y ∧ y { nx := fun _ H' => Q .non H', rt := Q } (L2.start nUnknown []) H by
      obtain ⟨y, h, q⟩ := z
      exact ⟨y, h.nox, q⟩
    refine ⟨_, pss_cons (ps_set (i := 0) scUnknown.nd rfl (Or.inr rfl) (pe_makeK (ks := []) MU G0 (hr.mono (by decide)) rfl U.gU KU pass0 (pa_cons pe_str (pa_cons pe_str pa_nil)) pk_nil))
      (pss_cons (ps_set (i := 1) scUnknown.nd rfl (Or.inl rfl) (pe_lst (pa_cons (pe_told (T := T) (TT := TT21 K) (k := 7) rfl gT kT lkT hcT bT scTold rfl (.inl rfl) (told21 (k := 4) rfl X.M.F).gives TB rfl mT one hr (LamX.lamS_by (sc := defScope sUnknown) (by decide +kernel)) rfl (fun _ _ _ _ _ => rfl) (fun A outer s H E f c' hA hr7 => pe_methK (ks := ["goal", "zz", "bb"]) (pv 0) U.cl mC GC_ hr7 (passE (takes_of rfl rfl rfl rfl)) (pk_cons pe_int (pk_cons pe_int (pk_cons pe_int pk_nil))) (by decide) (by decide) (by show 3 ≤ sizeLine; decide))) pa_nil)))
      (pss_cons (ps_expr (pe_bm PySem.F.plainAttrs_list PySem.F.slot_list_append PySem.F.type_list_append mt_append (pv 1) (pa_cons (pe_told (T := T) (TT := TT21 K) (k := 7) rfl gT kT lkT hcT bT scTold rfl (.inl rfl) (told21 (k := 4) rfl X.M.F).gives TB rfl mT one hr (LamX.lamS_by (sc := defScope sUnknown) (by decide +kernel)) rfl (fun _ _ _ _ _ => rfl) (fun A outer s H E f c' hA hr7 => pe_methK (ks := ["wheno", "answer"]) (pv 0) U.cl mC GC_ hr7 (passE (takes_of rfl rfl rfl rfl)) (pk_cons pe_int (pk_cons pe_int pk_nil)) (by decide) (by decide) (by show 2 ≤ sizeLine; decide))) pa_nil)))
      (pss_cons (ps_expr (pe_bm PySem.F.plainAttrs_list PySem.F.slot_list_append PySem.F.type_list_append mt_append (pv 1) (pa_cons (pe_told (T := T) (TT := TT21 K) (k := 7) rfl gT kT lkT hcT bT scTold rfl (.inl rfl) (told21 (k := 4) rfl X.M.F).gives TB rfl mT one hr (LamX.lamS_by (sc := defScope sUnknown) (by decide +kernel)) rfl (fun _ _ _ _ _ => rfl) (fun A outer s H E f c' hA hr7 => pe_methK (ks := ["goal", "answer"]) (pv 0) U.cl mC GC_ hr7 (passE (takes_of rfl rfl rfl rfl)) (pk_cons pe_non (pk_cons pe_int pk_nil)) (by decide) (by decide) (by show 2 ≤ sizeLine; decide))) pa_nil)))
      (pss_one (ps_ret (pe_cmpR (op_eqD hu) (pv 1) (pe_lst (pa_cons (pe_lst (pa_cons pe_str (pa_cons pe_str (pa_cons pe_bl (pa_cons pe_bl pa_nil))))) (pa_cons (pe_lst (pa_cons pe_str (pa_cons pe_str (pa_cons pe_bl (pa_cons pe_bl pa_nil))))) (pa_cons (pe_lst (pa_cons pe_str (pa_cons pe_non (pa_cons pe_bl (pa_cons pe_bl pa_nil))))) pa_nil)))) (nomark _))))))), ?_⟩
    refine ⟨rfl, rfl, fun x dx hx hd ne => ?_⟩
    change spRuleI K [.ref x, .str "a", .str "b", .ref eA, .non] _ _ E0
    refine rule_ok (rows := []) hx hd (NameS.of (by decide +kernel)) (NameS.of (by decide +kernel)) (ety _) ekt (.inr (esq _)) ⟨rfl, fun i v r e1 => by cases e1⟩ (fun r hr => by cases hr) (Nat.zero_le _) fun Hc s3 hb => ⟨rfl, ?_⟩
    have b0 : BX T Hc Hc := ⟨LamX.ExtN.refl _, Tabs.same tabs s3⟩
    have hb_ : ∀ {G}, BX T Hc G → RuleAt K G x "a" "b" [] [] := fun z => hb.ext z.ex
    clear hx hd ne
    refine ⟨b0.tb, fun G1 x1 t1 => ?_⟩
    have b1 := b0.stE x1 t1
    refine tt_oc (oc := .name (.str "bb")) (fun E H1 R s o => ?_) (fun ra G2 s2 n2 ea => ⟨(by show 1 ≤ sizeLine; decide), fun W nW => ?_⟩)
    · obtain ⟨dx2, tw, md, eb, _⟩ := hb_ (b1.stS s)
      refine ⟨_, rfl, x, dx2, _, rfl, eb, rfl, rfl, x, dx2, _, _, _, _, rfl, eb, (by show 3 < 64; decide), .inl fun ys pm so => ?_⟩
      obtain rfl := unk1 pm so
      exact ⟨0, _, rfl, by decide +kernel, fun i u hi => absurd hi (Nat.not_lt_zero _), o⟩
    have b2 := b1.stS s2
    have nw := b2.new nW
    have u3 := same_new (o := .lst [V.ref ra]) nW
    have b3 := b2.stS u3
    have hW : upd G2 W (.lst [V.ref ra]) W = some (.lst [V.ref ra]) := upd_same
    have ea3 := u3 _ _ ea
    generalize upd G2 W (.lst [V.ref ra]) = G3 at *
    refine ⟨_, rfl, .inl ⟨rfl, _, SqL.of hW⟩, b3.tb, fun G1 x1 t1 => ?_⟩
    have c1 := b3.stE x1 t1
    refine tt_oc (oc := .name (.str "wheno")) (fun E H1 R s o => ?_) (fun rb G2 s2 n2 e2 => ?_)
    · obtain ⟨dx2, tw, md, eb, _⟩ := hb_ (c1.stS s)
      refine ⟨_, rfl, x, dx2, _, rfl, eb, rfl, rfl, x, dx2, _, _, _, _, rfl, eb, (by show 2 < 64; decide), .inl fun ys pm so => ?_⟩
      obtain rfl := unk2 pm so
      refine ⟨1, _, rfl, by decide +kernel, fun i u hi hu => ?_, o⟩
      obtain rfl : i = 0 := by omega
      cases hu
      decide +kernel
    have c2 := c1.stS s2
    have hW2 := s2 _ _ (x1 _ _ hW fun _ z => by cases z)
    have rW : rb ≠ W := (ne_of_none (x1 _ _ hW fun _ z => by cases z) n2).symm
    have ea32 := s2 _ _ (x1 _ _ ea3 fun _ z => by cases z)
    refine ⟨W, _, _, rfl, rfl, hW2, by show 1 < sizeLine; decide, ?_⟩
    have b4 := c2.upL (o := .lst ([V.ref ra] ++ [.ref rb])) nw hW2
    have hWn : upd G2 W (.lst ([V.ref ra] ++ [.ref rb])) W = some (.lst [V.ref ra, .ref rb]) := upd_same
    have f_rb : upd G2 W (.lst ([V.ref ra] ++ [.ref rb])) rb = _ := (upd_ne rW).trans e2
    have ea33 : upd G2 W (.lst ([V.ref ra] ++ [.ref rb])) ra = _ := (upd_ne (fun z => by rw [z, hW2] at ea32; cases ea32)).trans ea32
    generalize upd G2 W (.lst ([V.ref ra] ++ [.ref rb])) = G3 at *
    clear hW hW2 x1 t1 c1 s2 n2 e2 c2 rW ea32 b3
    clear ea3
    have ea3 := ea33
    clear ea33
    have hW := hWn
    clear hWn
    refine ⟨_, rfl, .inl ⟨rfl, _, SqL.of hW⟩, b4.tb, fun G1 x1 t1 => ?_⟩
    have c1 := b4.stE x1 t1
    refine tt_oc (oc := .name .non) (fun E H1 R s o => ?_) (fun rc G2 s2 n2 e2 => ?_)
    · obtain ⟨dx2, tw, md, eb, _⟩ := hb_ (c1.stS s)
      refine ⟨_, rfl, x, dx2, _, rfl, eb, rfl, rfl, x, dx2, _, _, _, _, rfl, eb, (by show 2 < 64; decide), .inr ⟨by decide +kernel, fun H2 x' dx' s' hx' hd' ne' => ?_⟩⟩
      have up : Same H2 (upd (upd H2 dx' (.own x')) x' (.ins (aRu K) dx' [])) := fun b o e => by rw [upd_ne (ne_of_none e hx'), upd_ne (ne_of_none e hd')]; exact e
      exact ⟨x', dx', _, _, _, _, rfl, .inl ⟨0, .non, rfl, .inr ⟨rfl, _, .base .non, kit_ty (by decide +kernel)⟩, fun i u hi => absurd hi (Nat.not_lt_zero _), (o.same s').same up⟩⟩
    have c2 := c1.stS s2
    have hW2 := s2 _ _ (x1 _ _ hW fun _ z => by cases z)
    have rW : rc ≠ W := (ne_of_none (x1 _ _ hW fun _ z => by cases z) n2).symm
    have ea32 := s2 _ _ (x1 _ _ ea3 fun _ z => by cases z)
    have f_rb2 := s2 _ _ (x1 _ _ f_rb fun _ z => by cases z)
    refine ⟨W, _, _, rfl, rfl, hW2, by show 2 < sizeLine; decide, ?_⟩
    have b5 := c2.upL (o := .lst ([V.ref ra, .ref rb] ++ [.ref rc])) nw hW2
    have hWn : upd G2 W (.lst ([V.ref ra, .ref rb] ++ [.ref rc])) W = some (.lst [V.ref ra, .ref rb, .ref rc]) := upd_same
    have f_rc : upd G2 W (.lst ([V.ref ra, .ref rb] ++ [.ref rc])) rc = _ := (upd_ne rW).trans e2
    have ea33 : upd G2 W (.lst ([V.ref ra, .ref rb] ++ [.ref rc])) ra = _ := (upd_ne (fun z => by rw [z, hW2] at ea32; cases ea32)).trans ea32
    have f_rb3 : upd G2 W (.lst ([V.ref ra, .ref rb] ++ [.ref rc])) rb = _ := (upd_ne (fun z => by rw [z, hW2] at f_rb2; cases f_rb2)).trans f_rb2
    generalize upd G2 W (.lst ([V.ref ra, .ref rb] ++ [.ref rc])) = G3 at *
    clear hW hW2 x1 t1 c1 s2 n2 e2 c2 rW ea32 f_rb2 b4
    clear ea3
    have ea3 := ea33
    clear ea33
    clear f_rb
    have f_rb := f_rb3
    clear f_rb3
    have hW := hWn
    clear hWn
    refine ⟨_, rfl, (by show 4 ≤ sizeLine; decide), fun i1 m1 => ?_⟩
    have v1 := same_new (o := .lst [V.str "name", .str "bb", .bl true, .bl true]) m1
    have y1 : upd G3 i1 (.lst [V.str "name", .str "bb", .bl true, .bl true]) i1 = some (.lst [V.str "name", .str "bb", .bl true, .bl true]) := upd_same
    generalize upd G3 i1 (.lst [V.str "name", .str "bb", .bl true, .bl true]) = Ga at *
    refine ⟨(by show 4 ≤ sizeLine; decide), fun i2 m2 => ?_⟩
    have v2 := same_new (o := .lst [V.str "name", .str "wheno", .bl true, .bl true]) m2
    have y2 : upd Ga i2 (.lst [V.str "name", .str "wheno", .bl true, .bl true]) i2 = some (.lst [V.str "name", .str "wheno", .bl true, .bl true]) := upd_same
    generalize upd Ga i2 (.lst [V.str "name", .str "wheno", .bl true, .bl true]) = Gb at *
    refine ⟨(by show 4 ≤ sizeLine; decide), fun i3 m3 => ?_⟩
    have v3 := same_new (o := .lst [V.str "name", .non, .bl true, .bl true]) m3
    have y3 : upd Gb i3 (.lst [V.str "name", .non, .bl true, .bl true]) i3 = some (.lst [V.str "name", .non, .bl true, .bl true]) := upd_same
    generalize upd Gb i3 (.lst [V.str "name", .non, .bl true, .bl true]) = Gc at *
    refine ⟨(by show 3 ≤ sizeLine; decide), fun i4 m4 => ?_⟩
    have v4 := same_new (o := .lst [V.ref i1, .ref i2, .ref i3]) m4
    have y4 : upd Gc i4 (.lst [V.ref i1, .ref i2, .ref i3]) i4 = some (.lst [V.ref i1, .ref i2, .ref i3]) := upd_same
    generalize upd Gc i4 (.lst [V.ref i1, .ref i2, .ref i3]) = Gd at *
    have vA := ((v1.trans v2).trans v3).trans v4
    have dp : ∀ {r : Addr} {x : V} {d : PyData}, Gd r = some (.lst [.str "name", x, .bl true, .bl true]) → Dp K Gd x d → Dp K Gd (.ref r) (kdU d) := fun e d => .lst (SqL.of e) (.cons (.str _) (.cons d (.cons (.bl _) (.cons (.bl _) .nil))))
    refine ⟨.list [kdU (.str "bb"), kdU (.str "wheno"), kdU .none], .list [kdU (.str "bb"), kdU (.str "wheno"), kdU .none], .lst (SqL.of (vA _ _ hW)) (.cons (dp (vA _ _ ea3) (.str _)) (.cons (dp (vA _ _ f_rb) (.str _)) (.cons (dp (vA _ _ f_rc) .non) .nil))),
      .lst (SqL.of y4) (.cons (dp (v4 _ _ (v3 _ _ (v2 _ _ y1))) (.str _)) (.cons (dp (v4 _ _ (v3 _ _ y2)) (.str _)) (.cons (dp (v4 _ _ y3) .non) .nil))), by decide +kernel, by decide +kernel, ?_⟩
    have ee : PyData.eqv (.list [kdU (.str "bb"), kdU (.str "wheno"), kdU .none]) (.list [kdU (.str "bb"), kdU (.str "wheno"), kdU .none]) = true := by simp [kdU, PyData.eqv, PyData.eqvAll]
    rw [ee]
    have bZ := b5.stS vA
    exact k _ ((same_extN s3).trans bZ.ex) bZ.tb
end
end K18
set_option maxHeartbeats 4000000
namespace K18
open PySem PySem.Spec PyProof.Rows L2 GL StX
abbrev sNinth : Stmt := tp 48
abbrev lamNinth : Str := "_law_ninth_right.<locals>.<lambda>"
section
variable {P : Program} {w : World} {K : PySem.W.Frag} {mg : Str → Option Value} {base : Heap}
structure LN (P : Program) (w : World) (K : PySem.W.Frag) (mg : Str → Option Value) (base : Heap) : Prop where
  M : LM P w K mg base
  mU1 : ∃ f fd gU, Mk K (aRu K) f ∧ FnOk P w K mg base (L2.CX P w) 5 f fd psRule (spRuleI K) ∧ KBn K fd psRule 3 ["when"] gU (fun vs zs => vs ++ (zs ++ [.non]))
  rng : mg "range" = none
  nN : PySem.W.kitOne K (.type "NoneType") (.ref (aR K)) = some false
theorem rule_when_bad {H : Hp} {x dx l : Addr} {j : Nat} {v : V} {xs : List V} {E : XK} {Q : VK} (hx : H x = none) (hd : H dx = none) (hl : H l = some (.lst xs)) (len : xs.length ≤ 1000) (hj : xs[j]? = some v) (bad : CondB K H v false) (bef : ∀ (i : Nat) (u : V), i < j → xs[i]? = some u → CondB K H u true)
    (o : outW (aIL K) (rFs "when" (.int (j : Nat))) H E) : spRuleI K [.ref x, .str "a", .str "b", .ref l, .non] (upd (upd H dx (.own x)) x (.ins (aRu K) dx [])) Q E := by
  have up : Same H (upd (upd H dx (.own x)) x (.ins (aRu K) dx [])) := fun b o e => by rw [upd_ne (ne_of_none e hx), upd_ne (ne_of_none e hd)]; exact e
  refine ⟨x, dx, _, _, _, _, rfl, .inr ⟨fun v hv => ?_, fun H1 s1 => ?_⟩⟩
  · simp only [List.mem_cons, List.not_mem_nil, or_false] at hv
    rcases hv with rfl | rfl
    · exact NameS.nm (NameS.of (by decide +kernel))
    · exact NameS.nm (NameS.of (by decide +kernel))
  have u := up.trans s1
  exact ⟨_, rfl, .inr ⟨l, xs, _, rfl, .base (.lst (u _ _ hl)), kit_list, .inl (SqL.of (u _ _ hl)), len, .inr ⟨j, v, hj, bad.same u, fun i w hi hw => (bef i w hi hw).same u, o.same u⟩⟩⟩
/-- ('x', 'from', k) -/
def GoodC (H : Hp) (v : V) : Prop := ∃ c k, v = .ref c ∧ H c = some (.tup [.str "x", .str "from", .int k])
theorem GoodC.same {H H' : Hp} {v : V} (h : GoodC H v) (k : Same H H') : GoodC H' v := by
  obtain ⟨c, i, e, h⟩ := h
  exact ⟨c, i, e, k _ _ h⟩
theorem GoodC.ext {H H' : Hp} {v : V} (h : GoodC H v) (k : LamX.ExtN H H') : GoodC H' v := by
  obtain ⟨c, i, e, h⟩ := h
  exact ⟨c, i, e, k _ _ h fun _ z => by cases z⟩
theorem GoodC.cond {H : Hp} {v : V} (h : GoodC H v) : CondB K H v true := by
  obtain ⟨c, i, rfl, h⟩ := h
  exact .inr ⟨c, _, rfl, h, .inr ⟨_, _, _, true, true, true, rfl, NameS.nm (NameS.of (by decide +kernel)), .inl ⟨_, rfl, by decide +kernel⟩, .inl ⟨rfl, _, .inl ⟨i, rfl, rfl⟩⟩, rfl⟩⟩
abbrev nNinth : List Str := ["_law_good", "_law_k", "_law_told_here"]
theorem scNinth : FnScope nNinth [] (defScope sNinth) := ⟨rfl, rfl, rfl, by decide +kernel, rfl, by decide +kernel, by decide +kernel⟩
theorem ok_ninth {f c tb : Addr} {T : List (Addr × Str)} {fd : FuncData} (F : Fun K "_law_ninth_right" "_law_ninth_right" sNinth f fd) (hc : fd.code = .ref c) (TB : LamX.TabB base mg c tb) (mT : (tb, lamNinth) ∈ T) (one : ∀ p ∈ T, p.1 = tb → p.2 = lamNinth) (X : LN P w K mg base) : FnG P w K mg base CX0 10 f fd [] (spUnknown T) := by
  obtain ⟨fT, fdT, FT, gT, bT⟩ := X.M.told
  obtain ⟨fU, fdU, gU, MU, GU, KU⟩ := X.mU1
  have U := X.M.U
  obtain ⟨ocT, odT, kVT, docT, pmT, anT, cdT, ctT, oslT, rfl, lkT, hcT⟩ := FT.ex
  have kT := FT.kp
  obtain ⟨oc_, od, kV, doc, pm, an, cdv, ct, osl, rfl, lk, hcd⟩ := F.ex
  obtain rfl : cdv = .ref c := hc
  refine FnG.ofBody lk hcd scNinth (fun vs H Q E h => ?_) (fun A outer sh H vs Q E gd hr h => ?_)
  · obtain ⟨rfl, _⟩ := h
    rfl
  · obtain ⟨rfl, tabs, k⟩ := h
    have hu := hr.units
    suffices z : ∃ y, PSs (cxOf CX0 P w K mg base nNinth "_law_ninth_right" (defScope sNinth) f (.ref c) A outer sh H E).nox (defBody sNinth) y ∧ y { nx := fun _ H' => Q .non H', rt := Q } (L2.start nNinth []) H by
      obtain ⟨y, h, q⟩ := z
      exact ⟨y, h.nox, q⟩
    refine ⟨_, pss_cons (ps_set (i := 0) scNinth.nd rfl (Or.inr rfl) (pe_lc (own := [("_law_k", 1)]) (g := gName 1) (tt := tYes) (te := tTup (tCons (tC (.str "x")) (tCons (tC (.str "from")) (tCons (tVar 1) tNil)))) rfl scNinth.nd (pi_range1 (by rfl) X.rng (pa_cons pe_int pa_nil))
        (blkOk_by (own := [("_law_k", 1)]) (N := nNinth) (sc := defScope sNinth) (by decide +kernel)) (fun _ _ _ _ _ => pg_name (i := 1) scNinth.nd rfl (Or.inl rfl)) (fun _ _ _ _ _ => pts_nil)
        (fun _ _ _ _ _ => by exact (pe_tup (pa_cons pe_str (pa_cons pe_str (pa_cons (pv 1) pa_nil)))))))
      (pss_cons (ps_set (i := 2) scNinth.nd rfl (Or.inl rfl) (pe_lst (pa_cons (pe_told (T := T) (TT := TT21 K) (k := 6) rfl gT kT lkT hcT bT scTold rfl (.inl rfl) (told21 (k := 3) rfl X.M.F).gives TB rfl mT one (hr.mono (by decide)) (LamX.lamS_by (sc := defScope sNinth) (by decide +kernel)) rfl (fun _ _ _ _ _ => rfl) (fun A outer s H E f c' hA hr6 => pe_makeK (ks := ["when"]) MU GU hr6 rfl U.gU KU (passE (takes_of rfl rfl rfl rfl)) (pa_cons pe_str (pa_cons pe_str pa_nil)) (pk_cons (pe_op op_cat (pv 0) (pe_lst (pa_cons (pe_tup (pa_cons pe_str (pa_cons pe_str (pa_cons pe_non pa_nil)))) pa_nil))) pk_nil))) pa_nil)))
      (pss_cons (ps_expr (pe_bm PySem.F.plainAttrs_list PySem.F.slot_list_append PySem.F.type_list_append mt_append (pv 2) (pa_cons (pe_told (T := T) (TT := TT21 K) (k := 6) rfl gT kT lkT hcT bT scTold rfl (.inl rfl) (told21 (k := 3) rfl X.M.F).gives TB rfl mT one (hr.mono (by decide)) (LamX.lamS_by (sc := defScope sNinth) (by decide +kernel)) rfl (fun _ _ _ _ _ => rfl) (fun A outer s H E f c' hA hr6 => pe_makeK (ks := ["when"]) MU GU hr6 rfl U.gU KU (passE (takes_of rfl rfl rfl rfl)) (pa_cons pe_str (pa_cons pe_str pa_nil)) (pk_cons (pe_op op_cat (pe_lst (pa_cons (pe_tup (pa_cons pe_str (pa_cons pe_str (pa_cons pe_int pa_nil)))) pa_nil)) (pv 0)) pk_nil))) pa_nil)))
      (pss_one (ps_ret (pe_cmpR (op_eqD hu) (pv 2) (pe_lst (pa_cons (pe_lst (pa_cons pe_str (pa_cons pe_str (pa_cons pe_int (pa_cons pe_bl pa_nil))))) (pa_cons (pe_lst (pa_cons pe_str (pa_cons pe_str (pa_cons pe_int (pa_cons pe_bl pa_nil))))) pa_nil))) (nomark _)))))), ?_⟩
    refine ⟨_, rfl, by decide, by decide, fun D hD => ?_⟩
    have uD := same_new (o := .lst []) hD
    refine lc_range (lo := 0) (n := 8) (fun i G => Same H G ∧ ∃ acc, G D = some (.lst acc) ∧ acc.length = i ∧ ∀ v ∈ acc, GoodC G v) ⟨uD, [], upd_same, rfl, fun v hv => by cases hv⟩ ?_ ?_
    · rintro i G hi ⟨sG, acc, hacc, la, all⟩
      refine ⟨rfl, ?_⟩
      refine ⟨_, rfl, (by show 3 ≤ sizeLine; decide), fun t nt => ?_⟩
      have ut := same_new (o := .tup [V.str "x", .str "from", .int (0 + (i : Int))]) nt
      have ht : upd G t (.tup [V.str "x", .str "from", .int (0 + (i : Int))]) t = some (.tup [V.str "x", .str "from", .int (0 + (i : Int))]) := upd_same
      generalize upd G t (.tup [V.str "x", .str "from", .int (0 + (i : Int))]) = G2 at *
      have hacc2 := ut _ _ hacc
      refine ⟨acc, hacc2, by rw [la, sizeLine_eq]; omega, fun b o e => ?_, acc ++ [.ref t], upd_same, by rw [List.length_append, la]; rfl, fun v hv => ?_⟩
      · have e2 := ut _ _ (sG _ _ e)
        rw [upd_ne (ne_of_none e hD)]
        exact e2
      · have keep : ∀ {c : Addr} {ys : List V}, G2 c = some (.tup ys) → upd G2 D (.lst (acc ++ [.ref t])) c = some (.tup ys) := fun {c ys} e => by
          rw [upd_ne (fun z => by rw [z, hacc2] at e; cases e)]
          exact e
        rcases List.mem_append.mp hv with h | h
        · obtain ⟨c, k, e, h⟩ := (all v h).same ut
          exact ⟨c, k, e, keep h⟩
        · rw [List.mem_singleton.mp h]
          exact ⟨t, _, rfl, keep ht⟩
    rintro G0 ⟨s0, acc, hacc, la, all⟩
    replace la : acc.length = 8 := la
    have b0 : BX T G0 G0 := ⟨LamX.ExtN.refl _, Tabs.same tabs s0⟩
    have D_ : ∀ {G}, BX T G0 G → G D = some (.lst acc) := fun z => z.ex _ _ hacc fun _ z => by cases z
    have g_ : ∀ {G}, BX T G0 G → ∀ v ∈ acc, GoodC G v := fun z v hv => (all v hv).ext z.ex
    refine ⟨b0.tb, fun G1 x1 t1 => ?_⟩
    have b1 := b0.stE x1 t1
    refine tt_oc (oc := .rule "when" (.int 8)) (fun E H1 R s o => ?_) (fun ra G2 s2 n2 ea => ⟨(by show 1 ≤ sizeLine; decide), fun W nW => ?_⟩)
    · have z := b1.stS s
      have hD1 := D_ z
      have gd := g_ z
      refine ⟨_, rfl, (by show 3 ≤ sizeLine; decide), fun t2 m2 => ?_⟩
      have v1 := same_new (o := .tup [V.str "x", .str "from", .non]) m2
      have w1 : upd H1 t2 (.tup [V.str "x", .str "from", .non]) t2 = some (.tup [V.str "x", .str "from", .non]) := upd_same
      generalize upd H1 t2 (.tup [V.str "x", .str "from", .non]) = H2 at *
      refine ⟨(by show 1 ≤ sizeLine; decide), fun l2 m3 => ?_⟩
      have v2 := same_new (o := .lst [V.ref t2]) m3
      have w2 : upd H2 l2 (.lst [V.ref t2]) l2 = some (.lst [V.ref t2]) := upd_same
      generalize upd H2 l2 (.lst [V.ref t2]) = H3 at *
      refine ⟨D, l2, acc, _, rfl, rfl, v2 _ _ (v1 _ _ hD1), w2, (by rw [la]; show 8 + 1 ≤ sizeLine; decide), fun l3 m4 => ?_⟩
      have v3 := same_new (o := .lst (acc ++ [V.ref t2])) m4
      have w3 : upd H3 l3 (.lst (acc ++ [V.ref t2])) l3 = some (.lst (acc ++ [V.ref t2])) := upd_same
      generalize upd H3 l3 (.lst (acc ++ [V.ref t2])) = H4 at *
      have vA := (v1.trans v2).trans v3
      have wt := v3 _ _ (v2 _ _ w1)
      refine ⟨rfl, rfl, fun x dx hx hd ne => ?_⟩
      refine rule_when_bad (j := 8) (v := .ref t2) hx hd w3 (by rw [List.length_append, la]; simp) (by rw [List.getElem?_append_right (by omega), la]; rfl) ?_ (fun i u hi hu => ?_) (o.same vA)
      · exact .inr ⟨t2, _, rfl, wt, .inr ⟨_, _, _, true, true, false, rfl, NameS.nm (NameS.of (by decide +kernel)), .inl ⟨_, rfl, by decide +kernel⟩, .inr ⟨rfl, ⟨_, false, false, .base .non, kit_ty (by decide +kernel), (fun z => by cases z), rfl⟩, _, .base .non, X.nN⟩, rfl⟩⟩
      · rw [List.getElem?_append_left (by omega)] at hu
        exact ((gd u (List.mem_of_getElem? hu)).same vA).cond
    have b2 := b1.stS s2
    have nw := b2.new nW
    have u3 := same_new (o := .lst [V.ref ra]) nW
    have b3 := b2.stS u3
    have hW : upd G2 W (.lst [V.ref ra]) W = some (.lst [V.ref ra]) := upd_same
    have ea3 := u3 _ _ ea
    generalize upd G2 W (.lst [V.ref ra]) = G3 at *
    refine ⟨_, rfl, .inl ⟨rfl, _, SqL.of hW⟩, b3.tb, fun G4 x4 t4 => ?_⟩
    have c1 := b3.stE x4 t4
    refine tt_oc (oc := .rule "when" (.int 0)) (fun E H1 R s o => ?_) (fun rb G5 s5 n5 e5 => ?_)
    · have z := c1.stS s
      have hD1 := D_ z
      have gd := g_ z
      refine ⟨(by show 3 ≤ sizeLine; decide), fun t2 m2 => ?_⟩
      have v1 := same_new (o := .tup [V.str "x", .str "over", .int 1]) m2
      have w1 : upd H1 t2 (.tup [V.str "x", .str "over", .int 1]) t2 = some (.tup [V.str "x", .str "over", .int 1]) := upd_same
      generalize upd H1 t2 (.tup [V.str "x", .str "over", .int 1]) = H2 at *
      refine ⟨(by show 1 ≤ sizeLine; decide), fun l2 m3 => ?_⟩
      have v2 := same_new (o := .lst [V.ref t2]) m3
      have w2 : upd H2 l2 (.lst [V.ref t2]) l2 = some (.lst [V.ref t2]) := upd_same
      generalize upd H2 l2 (.lst [V.ref t2]) = H3 at *
      refine ⟨_, rfl, l2, D, _, acc, rfl, rfl, w2, v2 _ _ (v1 _ _ hD1), (by rw [la]; show 1 + 8 ≤ sizeLine; decide), fun l3 m4 => ?_⟩
      have v3 := same_new (o := .lst ([V.ref t2] ++ acc)) m4
      have w3 : upd H3 l3 (.lst ([V.ref t2] ++ acc)) l3 = some (.lst ([V.ref t2] ++ acc)) := upd_same
      generalize upd H3 l3 (.lst ([V.ref t2] ++ acc)) = H4 at *
      have vA := (v1.trans v2).trans v3
      have wt := v3 _ _ (v2 _ _ w1)
      refine ⟨rfl, rfl, fun x dx hx hd ne => ?_⟩
      refine rule_when_bad (j := 0) (v := .ref t2) hx hd w3 (by rw [List.length_append, la]; simp) rfl ?_ (fun i u hi => absurd hi (Nat.not_lt_zero _)) (o.same vA)
      exact .inr ⟨t2, _, rfl, wt, .inr ⟨_, _, _, true, false, true, rfl, NameS.nm (NameS.of (by decide +kernel)), .inl ⟨_, rfl, by decide +kernel⟩, .inl ⟨rfl, _, .inl ⟨1, rfl, rfl⟩⟩, rfl⟩⟩
    have c2 := c1.stS s5
    have hW2 := s5 _ _ (x4 _ _ hW fun _ z => by cases z)
    have rW : rb ≠ W := (ne_of_none (x4 _ _ hW fun _ z => by cases z) n5).symm
    have ea5 := s5 _ _ (x4 _ _ ea3 fun _ z => by cases z)
    refine ⟨W, _, _, rfl, rfl, hW2, by show 1 < sizeLine; decide, ?_⟩
    have b4 := c2.upL (o := .lst ([V.ref ra] ++ [.ref rb])) nw hW2
    have hWn : upd G5 W (.lst ([V.ref ra] ++ [.ref rb])) W = some (.lst [V.ref ra, .ref rb]) := upd_same
    have f_rb : upd G5 W (.lst ([V.ref ra] ++ [.ref rb])) rb = _ := (upd_ne rW).trans e5
    have f_ra : upd G5 W (.lst ([V.ref ra] ++ [.ref rb])) ra = _ := (upd_ne (fun z => by rw [z, hW2] at ea5; cases ea5)).trans ea5
    generalize upd G5 W (.lst ([V.ref ra] ++ [.ref rb])) = G6 at *
    refine ⟨_, rfl, (by show 4 ≤ sizeLine; decide), fun i1 m1 => ?_⟩
    have v1 := same_new (o := .lst [V.str "rule", .str "when", .int 8, .bl true]) m1
    have y1 : upd G6 i1 (.lst [V.str "rule", .str "when", .int 8, .bl true]) i1 = some (.lst [V.str "rule", .str "when", .int 8, .bl true]) := upd_same
    generalize upd G6 i1 (.lst [V.str "rule", .str "when", .int 8, .bl true]) = Ga at *
    refine ⟨(by show 4 ≤ sizeLine; decide), fun i2 m2 => ?_⟩
    have v2 := same_new (o := .lst [V.str "rule", .str "when", .int 0, .bl true]) m2
    have y2 : upd Ga i2 (.lst [V.str "rule", .str "when", .int 0, .bl true]) i2 = some (.lst [V.str "rule", .str "when", .int 0, .bl true]) := upd_same
    generalize upd Ga i2 (.lst [V.str "rule", .str "when", .int 0, .bl true]) = Gb at *
    refine ⟨(by show 2 ≤ sizeLine; decide), fun i3 m3 => ?_⟩
    have v3 := same_new (o := .lst [V.ref i1, .ref i2]) m3
    have y3 : upd Gb i3 (.lst [V.ref i1, .ref i2]) i3 = some (.lst [V.ref i1, .ref i2]) := upd_same
    generalize upd Gb i3 (.lst [V.ref i1, .ref i2]) = Gc at *
    have vA := (v1.trans v2).trans v3
    have dp : ∀ {r : Addr} {i : Int}, Gc r = some (.lst [.str "rule", .str "when", .int i, .bl true]) → Dp K Gc (.ref r) (.list [.str "rule", .str "when", .int i, .bool true]) := fun e => .lst (SqL.of e) (.cons (.str _) (.cons (.str _) (.cons (.int _) (.cons (.bl _) .nil))))
    refine ⟨.list [.list [.str "rule", .str "when", .int 8, .bool true], .list [.str "rule", .str "when", .int 0, .bool true]], .list [.list [.str "rule", .str "when", .int 8, .bool true], .list [.str "rule", .str "when", .int 0, .bool true]], .lst (SqL.of (vA _ _ hWn)) (.cons (dp (vA _ _ f_ra)) (.cons (dp (vA _ _ f_rb)) .nil)),
      .lst (SqL.of y3) (.cons (dp (v3 _ _ (v2 _ _ y1))) (.cons (dp (v3 _ _ y2)) .nil)), by decide +kernel, by decide +kernel, ?_⟩
    have ee : PyData.eqv (.list [.list [.str "rule", .str "when", .int 8, .bool true], .list [.str "rule", .str "when", .int 0, .bool true]]) (.list [.list [.str "rule", .str "when", .int 8, .bool true], .list [.str "rule", .str "when", .int 0, .bool true]]) = true := by simp [PyData.eqv, PyData.eqvAll]
    rw [ee]
    have bZ := b4.stS vA
    exact k _ ((same_extN s0).trans bZ.ex) bZ.tb
end
end K18
set_option maxHeartbeats 4000000
namespace K18
open PySem PySem.Spec PyProof.Rows L2 GL StX
/-! ### what stands beside the drawing's state, without tables -/
def Zp (p : Addr) (H : Hp) : Hp := noT (off H p)
section
variable {p : Addr} {H0 H H' : Hp} {a b l : Addr} {o : HO} {L : List (Addr × HO)}
theorem Zp.mk (e : H b = some o) (n : b ≠ p) (t : ∀ ps, o ≠ .tbl ps) : Zp p H b = some o := noT_at (by rw [off_ne n]; exact e) t
theorem Zp.sm (e : Zp p H b = some o) : b ≠ p ∧ H b = some o ∧ ∀ ps, o ≠ .tbl ps :=
  ⟨(off_some (noT_some e).1).1, (off_some (noT_some e).1).2, (noT_some e).2⟩
theorem Zp.kp (k : ∀ b o, H b = some o → b ≠ p → H' b = some o) : Same (Zp p H) (Zp p H') := fun b o e => Zp.mk (k b o (Zp.sm e).2.1 (Zp.sm e).1) (Zp.sm e).1 (Zp.sm e).2.2
theorem Zp.same (k : Same H H') : Same (Zp p H) (Zp p H') := Zp.kp fun b o e _ => k b o e
theorem Zp.offs (k : Same (off H p) H') : Same (Zp p H) (Zp p H') := Zp.kp fun b o e n => k b o (by rw [off_ne n]; exact e)
theorem Zp.to (p : Addr) (H : Hp) : Same (Zp p H) H := fun b o e => (Zp.sm e).2.1
theorem Zp.ext (k : LamX.ExtN H H') : Same (Zp p H) H' := fun b o e => k b o (Zp.sm e).2.1 (Zp.sm e).2.2
/-- what has come about behind H0, with what is known of it -/
structure At (p : Addr) (H0 H : Hp) (L : List (Addr × HO)) : Prop where
  s : Same (off H0 p) H
  r : Rng H p
  f : ∀ (i : Nat) (x : Addr × HO), L[i]? = some x → Zp p H x.1 = some x.2
theorem At.nil (r : Rng H p) : At p H H [] := ⟨fun b o e => (off_some e).2, r, fun i x e => by cases e⟩
theorem At.same (A : At p H0 H L) (k : Same H H') : At p H0 H' L := ⟨fun b o e => k _ _ (A.s b o e), A.r.same' k, fun i x e => Zp.same k _ _ (A.f i x e)⟩
theorem At.kp (A : At p H0 H L) (k : ∀ b o, H b = some o → b ≠ p → H' b = some o) (R : Rng H' p) : At p H0 H' L := ⟨fun b o e => k _ _ (A.s b o e) (off_some e).1, R, fun i x e => Zp.kp k _ _ (A.f i x e)⟩
theorem At.offs (A : At p H0 H L) (k : Same (off H p) H') (R : Rng H' p) : At p H0 H' L := A.kp (fun b o e n => k b o (by rw [off_ne n]; exact e)) R
theorem At.add (A : At p H0 H L) (e : H a = some o) (n : a ≠ p) (t : ∀ ps, o ≠ .tbl ps) : At p H0 H ((a, o) :: L) := ⟨A.s, A.r, fun i x h => by
  match i, h with
  | 0, h =>
    cases h
    exact Zp.mk e n t
  | i + 1, h => exact A.f i x h⟩
theorem At.new (A : At p H0 H L) (n : H l = none) (t : ∀ ps, o ≠ .tbl ps) : At p H0 (upd H l o) ((l, o) :: L) := (A.same (same_new n)).add upd_same (A.r.ne_new' n) t
theorem At.head {x : Addr × HO} (A : At p H0 H (x :: L)) : At p H0 H [x] := ⟨A.s, A.r, fun i y e => by
  match i, e with
  | 0, e => exact A.f 0 y e⟩
theorem At.restart (A : At p H0 H L) : At p H H L := ⟨fun b o e => (off_some e).2, A.r, A.f⟩
theorem At.bare (A : At p H0 H L) : At p H0 H [] := ⟨A.s, A.r, fun i x e => by cases e⟩
theorem At.get {i : Nat} (A : At p H0 H L) (h : L[i]? = some (a, o)) : Zp p H a = some o := A.f i _ h
theorem At.at {i : Nat} (A : At p H0 H L) (h : L[i]? = some (a, o)) : H a = some o := (Zp.sm (A.f i _ h)).2.1
end
/-! ### conditions of plain values -/
/-- what is no Ratio -/
structure NoR (K : PySem.W.Frag) : Prop where
  n : PySem.W.kitOne K (.type "NoneType") (.ref (aR K)) = some false
  b : PySem.W.kitOne K (.type "bool") (.ref (aR K)) = some false
  s : PySem.W.kitOne K (.type "str") (.ref (aR K)) = some false
def plD (v : V) : Bool := match v with
  | .str s => decide (s.length ≤ 100) && ((Txt.split s ".").all (fun u => decide (u.length ≤ 1000)))
  | .non | .bl _ | .int _ => true
  | _ => false
def isNmV (v : V) : Bool := match v with
  | .str s => nameB s
  | _ => false
def sideV (v : V) : Bool := match v with
  | .str z => sideB z
  | _ => false
def numV (v : V) : Bool := match v with
  | .int _ => true
  | _ => false
section
variable {K : PySem.W.Frag} {H : Hp} {v : V}
theorem IsNm.pl (h : plD v = true) : IsNm K H v (isNmV v) := by
  cases v with
  | str s =>
    simp only [plD, Bool.and_eq_true, decide_eq_true_eq, List.all_eq_true] at h
    exact .inl ⟨s, rfl, h.1, h.2, rfl⟩
  | non => exact .inr ⟨rfl, _, .base .non, kit_ty (by decide +kernel)⟩
  | bl b => exact .inr ⟨rfl, _, .base (.bl b), kit_ty (by decide +kernel)⟩
  | int i => exact .inr ⟨rfl, _, .base (.int i), kit_ty (by decide +kernel)⟩
  | _ => cases h
theorem SideB.pl (h : plD v = true) : SideB K H v (sideV v) := by
  cases v with
  | str s => exact .inl ⟨s, rfl, rfl⟩
  | non => exact .inr ⟨rfl, _, .base .non, kit_ty (by decide +kernel)⟩
  | bl b => exact .inr ⟨rfl, _, .base (.bl b), kit_ty (by decide +kernel)⟩
  | int i => exact .inr ⟨rfl, _, .base (.int i), kit_ty (by decide +kernel)⟩
  | _ => cases h
theorem NumB.pl (N : NoR K) (h : plD v = true) : NumB K H v (numV v) := by
  cases v with
  | str s => exact .inr ⟨rfl, ⟨_, false, false, .base (.str s), kit_ty (by decide +kernel), (fun z => by cases z), rfl⟩, _, .base (.str s), N.s⟩
  | non => exact .inr ⟨rfl, ⟨_, false, false, .base .non, kit_ty (by decide +kernel), (fun z => by cases z), rfl⟩, _, .base .non, N.n⟩
  | bl b => exact .inr ⟨rfl, ⟨_, true, true, .base (.bl b), kit_ty (by decide +kernel), (fun _ => kit_ty (by decide +kernel)), rfl⟩, _, .base (.bl b), N.b⟩
  | int i => exact .inl ⟨rfl, _, .inl ⟨i, rfl, rfl⟩⟩
  | _ => cases h
theorem CondB.pl {c : Addr} {a b d : V} {r : Bool} (N : NoR K) (h : H c = some (.tup [a, b, d])) (e : (plD a && (plD b && plD d)) = true) (e2 : (isNmV a && (sideV b && numV d)) = r) : CondB K H (.ref c) r := by
  simp only [Bool.and_eq_true] at e
  exact .inr ⟨c, _, rfl, h, .inr ⟨_, _, _, _, _, _, rfl, .pl e.1, .pl e.2.1, .pl N e.2.2, e2.symm⟩⟩
theorem CondB.len {c : Addr} {xs : List V} (h : H c = some (.tup xs)) (n : (decide (xs.length = 3) || decide (100 < xs.length)) = false) : CondB K H (.ref c) false := by
  simp only [Bool.or_eq_false_iff, decide_eq_false_iff_not, Nat.not_lt] at n
  exact .inr ⟨c, xs, rfl, h, .inl ⟨rfl, n.1, n.2⟩⟩
end
end K18
set_option maxHeartbeats 4000000
namespace K18
open PySem PySem.Spec PyProof.Rows L2 GL StX
abbrev sOddClaims : Stmt := tp 42
section
variable {P : Program} {w : World} {K : PySem.W.Frag} {mg : Str → Option Value} {base : Heap}
theorem made_ratR {H : Hp} {R : VK} {E : XK} {x dx : Addr} {t b : Int} (hx : H x = none) (hd : H dx = none) (ne : dx ≠ x) (hb : b ≠ 0) (hz : b.natAbs < 2 ^ 9000) (k : ∀ H', Same H H' → RatAt K H' x (Rat.divInt t b) → R .non H') :
    spRInit K [.ref x, .int t, .int b] (upd (upd H dx (.own x)) x (.ins (aR K) dx [])) R E :=
  ⟨x, dx, t, b, rfl, hb, hz, upd_same, fun H' e kp => k H' (fun c o ec => kp c o (ne_of_none ec hx) (by rw [upd_ne (ne_of_none ec hx), upd_ne (ne_of_none ec hd)]; exact ec)) ⟨dx, e⟩⟩
/-- what is no list of conditions, and the place of the first that is none -/
def WhenBad (K : PySem.W.Frag) (H : Hp) (wh due : V) : Prop := (due = .non ∧ ∃ t, TyX K H wh t ∧ PySem.W.kitAny K t [.type "list", .type "tuple"] = some false) ∨
  ∃ (a : Addr) (xs : List V) (t : Value) (j : Nat) (v : V), due = .int (j : Nat) ∧ wh = .ref a ∧ TyX K H wh t ∧ PySem.W.kitAny K t [.type "list", .type "tuple"] = some true ∧ (SqL K H a xs ∨ SqT K H a xs) ∧ xs.length ≤ 1000 ∧ xs[j]? = some v ∧ CondB K H v false ∧ ∀ (i : Nat) (u : V), i < j → xs[i]? = some u → CondB K H u true
theorem WhenBad.same {H H' : Hp} {wh due : V} (h : WhenBad K H wh due) (k : Same H H') : WhenBad K H' wh due := by
  rcases h with ⟨e, t, ty, no⟩ | ⟨a, xs, t, j, v, e1, e2, ty, kt, sq, l, hj, bad, bef⟩
  · exact .inl ⟨e, t, TyX.same' ty k, no⟩
  · exact .inr ⟨a, xs, t, j, v, e1, e2, TyX.same' ty k, kt, sq.imp (fun h => L2.SqL.ext h k) (fun h => L2.SqT.ext h k), l, hj, bad.same k, fun i u hi hu => (bef i u hi hu).same k⟩
theorem kit_no {T : String} (a : PySem.W.kitOne K (.type T) (.type "list") = some false) (b : PySem.W.kitOne K (.type T) (.type "tuple") = some false) : PySem.W.kitAny K (.type T) [.type "list", .type "tuple"] = some false := by
  simp [PySem.W.kitAny, a, b]
theorem kit_tuple : PySem.W.kitAny K (.type "tuple") [.type "list", .type "tuple"] = some true := by
  have a : PySem.W.kitOne K (.type "tuple") (.type "list") = some false := kit_ty (by decide +kernel)
  have b : PySem.W.kitOne K (.type "tuple") (.type "tuple") = some true := kit_ty (by decide +kernel)
  simp [PySem.W.kitAny, a, b]
theorem cut4 {a b c e : V} {d : Nat} (h : d < 4) : cutV [a, b, c, e] none (some (d : Int)) = [a, b, c, e].take d ∧ cutV [a, b, c, e] (some (d : Int)) none = [a, b, c, e].drop d := by
  match d, h with
  | 0, _ => exact ⟨rfl, rfl⟩
  | 1, _ => exact ⟨rfl, rfl⟩
  | 2, _ => exact ⟨rfl, rfl⟩
  | 3, _ => exact ⟨rfl, rfl⟩
theorem spot_at {gs tl : List V} {v : V} {j : Nat} (h : j ≤ gs.length) : (gs.take j ++ [v] ++ gs.drop j ++ tl)[j]? = some v ∧ ∀ (i : Nat) (u : V), i < j → (gs.take j ++ [v] ++ gs.drop j ++ tl)[i]? = some u → u ∈ gs := by
  have l : (gs.take j).length = j := by rw [List.length_take]; omega
  rw [List.append_assoc, List.append_assoc]
  refine ⟨?_, fun i u hi hu => ?_⟩
  · rw [List.getElem?_append_right (by omega), l, Nat.sub_self]
    rfl
  · rw [List.getElem?_append_left (by omega)] at hu
    exact List.mem_of_mem_take (List.mem_of_getElem? hu)
def spOddClaims (K : PySem.W.Frag) : Sp := fun vs H Q _ => ∃ p : Addr, vs = [.ref p] ∧ Rng H p ∧ ∀ c wh due H', Same (off H p) H' → Rng H' p → c ≠ p → H' c = some (.tup [wh, due]) → WhenBad K (Zp p H') wh due → Q (.ref c) H'
abbrev nOddClaims : List Str := ["_law_pot_here", "_law_good", "_law_odd", "_law_spot", "_law_found"]
theorem scOddClaims : FnScope nOddClaims ["_law_pot_here"] (defScope sOddClaims) := ⟨rfl, rfl, rfl, by decide +kernel, rfl, by decide +kernel, by decide +kernel⟩
theorem ok_oddClaims {f : Addr} {fd : FuncData} (F : Fun K "_law_odd_claims" "_law_odd_claims" sOddClaims f fd) (dr : DefF P w K mg base "_law_draw" 1 ["_law_pot_here", "_law_many"] spDraw) (pk : DefF P w K mg base "_law_pick" 2 ["_law_pot_here", "_law_some"] (spChoice K)) (G : RG P w K mg base) (N : NoR K) (tup : mg "tuple" = none) : FnOk P w K mg base CX0 4 f fd ["_law_pot_here"] (spOddClaims K) := by
  obtain ⟨fC, fdC, GC_, gC, bC, kC⟩ := pk
  obtain ⟨fD, fdD, GD, gD, bD, kD⟩ := dr
  obtain ⟨fR, fdR, dR, MR, GR, vR, _, bR⟩ := G.mR
  have TR := G.T
  refine F.ok scOddClaims (fun vs H Q E h => ?_) (fun cdv A outer s H vs Q E hr h => ?_)
  · obtain ⟨p, rfl, _⟩ := h
    rfl
  · obtain ⟨p, rfl, R, k⟩ := h
    refine ⟨_, pss_cons (ps_if (pt_cmpR op_eq (pe_call GD (hr.mono (by decide)) rfl gD kD bD .nil pass0 (pa_cons (pv 0) (pa_cons pe_int pa_nil))) pe_int (nomark _)) (pss_one (ps_ret (pe_tup (pa_cons (pe_call GC_ (hr.mono (by decide)) rfl gC kC bC .nil pass0 (pa_cons (pv 0) (pa_cons (pe_lst (pa_cons pe_non (pa_cons pe_str (pa_cons pe_str (pa_cons pe_dnewK (pa_cons pe_int (pa_cons pe_bl pa_nil))))))) pa_nil))) (pa_cons pe_non pa_nil))))) pss_nil)
      (pss_cons (ps_set (i := 1) scOddClaims.nd rfl (Or.inl rfl) (pe_lst (pa_cons (pe_tup (pa_cons pe_str (pa_cons pe_str (pa_cons pe_int pa_nil)))) (pa_cons (pe_tup (pa_cons pe_str (pa_cons pe_str (pa_cons (pe_make MR GR hr rfl TR.gR bR .nil pass0 (pa_cons pe_int (pa_cons pe_int pa_nil))) pa_nil)))) (pa_cons (pe_tup (pa_cons pe_str (pa_cons pe_str (pa_cons (pe_un un_neg pe_int) pa_nil)))) (pa_cons (pe_tup (pa_cons pe_str (pa_cons pe_str (pa_cons pe_int pa_nil)))) pa_nil))))))
      (pss_cons (ps_set (i := 2) scOddClaims.nd rfl (Or.inl rfl) (pe_lst (pa_cons pe_non (pa_cons (pe_tup pa_nil) (pa_cons (pe_tup (pa_cons pe_str (pa_cons pe_str pa_nil))) (pa_cons (pe_tup (pa_cons pe_str (pa_cons pe_str (pa_cons pe_int (pa_cons pe_int pa_nil))))) (pa_cons (pe_lst (pa_cons pe_str (pa_cons pe_str (pa_cons pe_int pa_nil)))) (pa_cons (pe_tup (pa_cons pe_str (pa_cons pe_str (pa_cons pe_int pa_nil)))) (pa_cons (pe_tup (pa_cons pe_int (pa_cons pe_str (pa_cons pe_int pa_nil)))) pa_nil)))))))))
      (pss_cons (ps_set (i := 2) scOddClaims.nd rfl (Or.inl rfl) (pe_op op_cat (pv 2) (pe_lst (pa_cons (pe_tup (pa_cons pe_str (pa_cons pe_str (pa_cons pe_int pa_nil)))) (pa_cons (pe_tup (pa_cons pe_str (pa_cons pe_non (pa_cons pe_int pa_nil)))) (pa_cons (pe_tup (pa_cons pe_str (pa_cons pe_str (pa_cons pe_int pa_nil)))) (pa_cons (pe_tup (pa_cons pe_str (pa_cons pe_str (pa_cons pe_bl pa_nil)))) (pa_cons (pe_tup (pa_cons pe_str (pa_cons pe_str (pa_cons pe_str pa_nil)))) pa_nil))))))))
      (pss_cons (ps_set (i := 2) scOddClaims.nd rfl (Or.inl rfl) (pe_op op_cat (pv 2) (pe_lst (pa_cons (pe_tup (pa_cons pe_str (pa_cons pe_str (pa_cons pe_non pa_nil)))) (pa_cons (pe_tup (pa_cons pe_str (pa_cons (pe_lst (pa_cons pe_str pa_nil)) (pa_cons pe_int pa_nil)))) (pa_cons (pe_tup (pa_cons pe_str (pa_cons pe_str (pa_cons pe_int pa_nil)))) (pa_cons pe_str (pa_cons (pe_tup (pa_cons pe_str (pa_cons pe_str (pa_cons pe_int pa_nil)))) pa_nil))))))))
      (pss_cons (ps_set (i := 3) scOddClaims.nd rfl (Or.inl rfl) (pe_call GD (hr.mono (by decide)) rfl gD kD bD .nil pass0 (pa_cons (pv 0) (pa_cons pe_int pa_nil))))
      (pss_cons (ps_set (i := 4) scOddClaims.nd rfl (Or.inl rfl) (pe_op op_cat (pe_op op_cat (pe_slice sl_list (pv 1) po_none (po_some (pv 3))) (pe_lst (pa_cons (pe_call GC_ (hr.mono (by decide)) rfl gC kC bC .nil pass0 (pa_cons (pv 0) (pa_cons (pv 2) pa_nil))) pa_nil))) (pe_slice sl_list (pv 1) (po_some (pv 3)) po_none)))
      (pss_cut (ps_if (pt_cmpR op_eq (pe_call GD (hr.mono (by decide)) rfl gD kD bD .nil pass0 (pa_cons (pv 0) (pa_cons pe_int pa_nil))) pe_int (nomark _)) (pss_one (ps_set (i := 4) scOddClaims.nd rfl (Or.inl rfl) (pe_op op_cat (pv 4) (pe_lst (pa_cons (pe_call GC_ (hr.mono (by decide)) rfl gC kC bC .nil pass0 (pa_cons (pv 0) (pa_cons (pv 2) pa_nil))) pa_nil))))) pss_nil)
      (pss_one (ps_ret (pe_tup (pa_cons (pe_ifExp (pt_cmpR op_eq (pe_call GD (hr.mono (by decide)) rfl gD kD bD .nil pass0 (pa_cons (pv 0) (pa_cons pe_int pa_nil))) pe_int (nomark _)) (pv 4) (pe_callTy call_tuple_of (by rfl) tup (by decide +kernel) (pa_cons (pv 4) pa_nil))) (pa_cons (pv 3) pa_nil)))))))))))), ?_⟩
    have A := At.nil R
    refine ⟨_, rfl, p, 3, rfl, R, by decide, by decide, fun d0 H0 _ _ kp0 R0 => ?_⟩
    have A0 := A.kp kp0 R0
    clear A
    refine ⟨rfl, _, rfl, ?_⟩
    refine ite2 (fun _ => ?_) (fun _ => ?_)
    · refine ⟨_, rfl, ?_⟩
      intro l1 n1
      have A1 := A0.new (o := .dK []) n1 (fun _ z => by cases z)
      generalize upd H0 l1 (.dK []) = H1 at A1 ⊢
      refine ⟨(by show 6 ≤ sizeLine; decide), fun l2 n2 => ?_⟩
      have A2 := A1.new (o := .lst [V.non, .str "ab", .str "", .ref l1, .int 1, .bl true]) n2 (fun _ z => by cases z)
      generalize upd H1 l2 (.lst [V.non, .str "ab", .str "", .ref l1, .int 1, .bl true]) = H2 at A2 ⊢
      refine ⟨p, l2, _, rfl, A2.r, (A2.at (i := 0) rfl), (Zp.sm (A2.get (i := 0) rfl)).1, by show 0 < 6; decide, by show 6 < 1000; decide, fun v Hf mv kp Rf => ?_⟩
      have Af := A2.kp kp Rf
      refine ⟨(by show 2 ≤ sizeLine; decide), fun t nt => ?_⟩
      have AT := Af.new (o := .tup [v, .non]) nt (fun _ z => by cases z)
      refine k t v .non _ AT.s AT.r (Af.r.ne_new' nt) upd_same (.inl ⟨rfl, ?_⟩)
      simp only [List.mem_cons, List.not_mem_nil, or_false] at mv
      rcases mv with rfl | rfl | rfl | rfl | rfl | rfl
      · exact ⟨_, .base .non, kit_no (kit_ty (by decide +kernel)) (kit_ty (by decide +kernel))⟩
      · exact ⟨_, .base (.str _), kit_no (kit_ty (by decide +kernel)) (kit_ty (by decide +kernel))⟩
      · exact ⟨_, .base (.str _), kit_no (kit_ty (by decide +kernel)) (kit_ty (by decide +kernel))⟩
      · exact ⟨_, .base (.dK (AT.get (i := 2) rfl)), kit_no (kit_ty (by decide +kernel)) (kit_ty (by decide +kernel))⟩
      · exact ⟨_, .base (.int _), kit_no (kit_ty (by decide +kernel)) (kit_ty (by decide +kernel))⟩
      · exact ⟨_, .base (.bl _), kit_no (kit_ty (by decide +kernel)) (kit_ty (by decide +kernel))⟩
    · refine ⟨(by show 3 ≤ sizeLine; decide), fun l101 n101 => ?_⟩
      have A101 := A0.new (o := .tup [V.str "x", .str "from", .int 1]) n101 (fun _ z => by cases z)
      generalize upd H0 l101 (.tup [V.str "x", .str "from", .int 1]) = H101 at A101 ⊢
      intro l102 d102 hx102 hd102 ne102
      refine made_ratR hx102 hd102 ne102 (by decide) (by show 2 < 2 ^ 9000; exact Nat.lt_of_lt_of_le (by decide : 2 < 2 ^ 2) (Nat.pow_le_pow_right (by decide) (by decide))) fun H102 s102 ⟨e102, r102⟩ => ⟨rfl, ?_⟩
      have A102 := (A101.same s102).add r102 (A101.r.ne_new' hx102) (fun _ z => by cases z)
      refine ⟨(by show 3 ≤ sizeLine; decide), fun l103 n103 => ?_⟩
      have A103 := A102.new (o := .tup [V.str "a.b", .str "above", .ref l102]) n103 (fun _ z => by cases z)
      generalize upd H102 l103 (.tup [V.str "a.b", .str "above", .ref l102]) = H103 at A103 ⊢
      refine ⟨_, rfl, ?_⟩
      refine ⟨(by show 3 ≤ sizeLine; decide), fun l104 n104 => ?_⟩
      have A104 := A103.new (o := .tup [V.str "x", .str "to", .int (-3)]) n104 (fun _ z => by cases z)
      generalize upd H103 l104 (.tup [V.str "x", .str "to", .int (-3)]) = H104 at A104 ⊢
      refine ⟨(by show 3 ≤ sizeLine; decide), fun l105 n105 => ?_⟩
      have A105 := A104.new (o := .tup [V.str "abcdefgh", .str "below", .int 0]) n105 (fun _ z => by cases z)
      generalize upd H104 l105 (.tup [V.str "abcdefgh", .str "below", .int 0]) = H105 at A105 ⊢
      refine ⟨(by show 4 ≤ sizeLine; decide), fun l106 n106 => ?_⟩
      have A106 := A105.new (o := .lst [V.ref l101, .ref l103, .ref l104, .ref l105]) n106 (fun _ z => by cases z)
      generalize upd H105 l106 (.lst [V.ref l101, .ref l103, .ref l104, .ref l105]) = H106 at A106 ⊢
      refine ⟨(by show 0 ≤ sizeLine; decide), fun l107 n107 => ?_⟩
      have A107 := A106.new (o := .tup []) n107 (fun _ z => by cases z)
      generalize upd H106 l107 (.tup []) = H107 at A107 ⊢
      refine ⟨(by show 2 ≤ sizeLine; decide), fun l108 n108 => ?_⟩
      have A108 := A107.new (o := .tup [V.str "x", .str "from"]) n108 (fun _ z => by cases z)
      generalize upd H107 l108 (.tup [V.str "x", .str "from"]) = H108 at A108 ⊢
      refine ⟨(by show 4 ≤ sizeLine; decide), fun l109 n109 => ?_⟩
      have A109 := A108.new (o := .tup [V.str "x", .str "from", .int 1, .int 2]) n109 (fun _ z => by cases z)
      generalize upd H108 l109 (.tup [V.str "x", .str "from", .int 1, .int 2]) = H109 at A109 ⊢
      refine ⟨(by show 3 ≤ sizeLine; decide), fun l110 n110 => ?_⟩
      have A110 := A109.new (o := .lst [V.str "x", .str "from", .int 1]) n110 (fun _ z => by cases z)
      generalize upd H109 l110 (.lst [V.str "x", .str "from", .int 1]) = H110 at A110 ⊢
      refine ⟨(by show 3 ≤ sizeLine; decide), fun l111 n111 => ?_⟩
      have A111 := A110.new (o := .tup [V.str "X", .str "from", .int 1]) n111 (fun _ z => by cases z)
      generalize upd H110 l111 (.tup [V.str "X", .str "from", .int 1]) = H111 at A111 ⊢
      refine ⟨(by show 3 ≤ sizeLine; decide), fun l112 n112 => ?_⟩
      have A112 := A111.new (o := .tup [V.int 1, .str "from", .int 1]) n112 (fun _ z => by cases z)
      generalize upd H111 l112 (.tup [V.int 1, .str "from", .int 1]) = H112 at A112 ⊢
      refine ⟨(by show 7 ≤ sizeLine; decide), fun l113 n113 => ?_⟩
      have A113 := A112.new (o := .lst [V.non, .ref l107, .ref l108, .ref l109, .ref l110, .ref l111, .ref l112]) n113 (fun _ z => by cases z)
      generalize upd H112 l113 (.lst [V.non, .ref l107, .ref l108, .ref l109, .ref l110, .ref l111, .ref l112]) = H113 at A113 ⊢
      refine ⟨_, rfl, ?_⟩
      refine ⟨(by show 3 ≤ sizeLine; decide), fun l114 n114 => ?_⟩
      have A114 := A113.new (o := .tup [V.str "x", .str "over", .int 1]) n114 (fun _ z => by cases z)
      generalize upd H113 l114 (.tup [V.str "x", .str "over", .int 1]) = H114 at A114 ⊢
      refine ⟨(by show 3 ≤ sizeLine; decide), fun l115 n115 => ?_⟩
      have A115 := A114.new (o := .tup [V.str "x", .non, .int 1]) n115 (fun _ z => by cases z)
      generalize upd H114 l115 (.tup [V.str "x", .non, .int 1]) = H115 at A115 ⊢
      refine ⟨(by show 3 ≤ sizeLine; decide), fun l116 n116 => ?_⟩
      have A116 := A115.new (o := .tup [V.str "x", .str "", .int 1]) n116 (fun _ z => by cases z)
      generalize upd H115 l116 (.tup [V.str "x", .str "", .int 1]) = H116 at A116 ⊢
      refine ⟨(by show 3 ≤ sizeLine; decide), fun l117 n117 => ?_⟩
      have A117 := A116.new (o := .tup [V.str "x", .str "from", .bl true]) n117 (fun _ z => by cases z)
      generalize upd H116 l117 (.tup [V.str "x", .str "from", .bl true]) = H117 at A117 ⊢
      refine ⟨(by show 3 ≤ sizeLine; decide), fun l118 n118 => ?_⟩
      have A118 := A117.new (o := .tup [V.str "x", .str "from", .str "1"]) n118 (fun _ z => by cases z)
      generalize upd H117 l118 (.tup [V.str "x", .str "from", .str "1"]) = H118 at A118 ⊢
      refine ⟨(by show 5 ≤ sizeLine; decide), fun l119 n119 => ?_⟩
      have A119 := A118.new (o := .lst [V.ref l114, .ref l115, .ref l116, .ref l117, .ref l118]) n119 (fun _ z => by cases z)
      generalize upd H118 l119 (.lst [V.ref l114, .ref l115, .ref l116, .ref l117, .ref l118]) = H119 at A119 ⊢
      refine ⟨l113, l119, _, _, rfl, rfl, (A119.at (i := 6) rfl), (A119.at (i := 0) rfl), (by show 12 ≤ sizeLine; decide), fun l120 n120 => ?_⟩
      have A120 := A119.new (o := .lst ([V.non, .ref l107, .ref l108, .ref l109, .ref l110, .ref l111, .ref l112] ++ [V.ref l114, .ref l115, .ref l116, .ref l117, .ref l118])) n120 (fun _ z => by cases z)
      generalize upd H119 l120 (.lst ([V.non, .ref l107, .ref l108, .ref l109, .ref l110, .ref l111, .ref l112] ++ [V.ref l114, .ref l115, .ref l116, .ref l117, .ref l118])) = H120 at A120 ⊢
      refine ⟨_, rfl, ?_⟩
      refine ⟨(by show 3 ≤ sizeLine; decide), fun l121 n121 => ?_⟩
      have A121 := A120.new (o := .tup [V.str "x", .str "from", .non]) n121 (fun _ z => by cases z)
      generalize upd H120 l121 (.tup [V.str "x", .str "from", .non]) = H121 at A121 ⊢
      refine ⟨(by show 1 ≤ sizeLine; decide), fun l122 n122 => ?_⟩
      have A122 := A121.new (o := .lst [V.str "from"]) n122 (fun _ z => by cases z)
      generalize upd H121 l122 (.lst [V.str "from"]) = H122 at A122 ⊢
      refine ⟨(by show 3 ≤ sizeLine; decide), fun l123 n123 => ?_⟩
      have A123 := A122.new (o := .tup [V.str "x", .ref l122, .int 1]) n123 (fun _ z => by cases z)
      generalize upd H122 l123 (.tup [V.str "x", .ref l122, .int 1]) = H123 at A123 ⊢
      refine ⟨(by show 3 ≤ sizeLine; decide), fun l124 n124 => ?_⟩
      have A124 := A123.new (o := .tup [V.str "x.", .str "from", .int 1]) n124 (fun _ z => by cases z)
      generalize upd H123 l124 (.tup [V.str "x.", .str "from", .int 1]) = H124 at A124 ⊢
      refine ⟨(by show 3 ≤ sizeLine; decide), fun l125 n125 => ?_⟩
      have A125 := A124.new (o := .tup [V.str "x", .str "From", .int 1]) n125 (fun _ z => by cases z)
      generalize upd H124 l125 (.tup [V.str "x", .str "From", .int 1]) = H125 at A125 ⊢
      refine ⟨(by show 5 ≤ sizeLine; decide), fun l126 n126 => ?_⟩
      have A126 := A125.new (o := .lst [V.ref l121, .ref l123, .ref l124, .str "xab", .ref l125]) n126 (fun _ z => by cases z)
      generalize upd H125 l126 (.lst [V.ref l121, .ref l123, .ref l124, .str "xab", .ref l125]) = H126 at A126 ⊢
      refine ⟨l120, l126, _, _, rfl, rfl, (A126.at (i := 6) rfl), (A126.at (i := 0) rfl), (by show 17 ≤ sizeLine; decide), fun l127 n127 => ?_⟩
      have A127 := A126.new (o := .lst ([V.non, .ref l107, .ref l108, .ref l109, .ref l110, .ref l111, .ref l112] ++ [V.ref l114, .ref l115, .ref l116, .ref l117, .ref l118] ++ [V.ref l121, .ref l123, .ref l124, .str "xab", .ref l125])) n127 (fun _ z => by cases z)
      generalize upd H126 l127 (.lst ([V.non, .ref l107, .ref l108, .ref l109, .ref l110, .ref l111, .ref l112] ++ [V.ref l114, .ref l115, .ref l116, .ref l117, .ref l118] ++ [V.ref l121, .ref l123, .ref l124, .str "xab", .ref l125])) = H127 at A127 ⊢
      have hg : ∀ u ∈ [V.ref l101, .ref l103, .ref l104, .ref l105], CondB K (Zp p H127) u true := by
        intro u hu
        simp only [List.mem_cons, List.not_mem_nil, or_false] at hu
        rcases hu with rfl | rfl | rfl | rfl
        · exact CondB.pl N (A127.get (i := 26) rfl) (by decide +kernel) (by decide +kernel)
        · exact .inr ⟨_, _, rfl, (A127.get (i := 24) rfl), .inr ⟨_, _, _, true, true, true, rfl, NameS.nm (NameS.of (by decide +kernel)), .inl ⟨_, rfl, by decide +kernel⟩, .inl ⟨rfl, _, .inr ⟨_, rfl, _, (A127.get (i := 25) rfl)⟩⟩, rfl⟩⟩
        · exact CondB.pl N (A127.get (i := 23) rfl) (by decide +kernel) (by decide +kernel)
        · exact CondB.pl N (A127.get (i := 22) rfl) (by decide +kernel) (by decide +kernel)
      have ho : ∀ u ∈ [V.non, .ref l107, .ref l108, .ref l109, .ref l110, .ref l111, .ref l112] ++ [V.ref l114, .ref l115, .ref l116, .ref l117, .ref l118] ++ [V.ref l121, .ref l123, .ref l124, .str "xab", .ref l125], CondB K (Zp p H127) u false := by
        intro u hu
        simp only [List.cons_append, List.nil_append, List.mem_cons, List.not_mem_nil, or_false] at hu
        rcases hu with rfl | rfl | rfl | rfl | rfl | rfl | rfl | rfl | rfl | rfl | rfl | rfl | rfl | rfl | rfl | rfl | rfl
        · exact .inl ⟨rfl, _, .base .non, kit_ty (by decide +kernel)⟩
        · exact CondB.len (A127.get (i := 20) rfl) (by decide +kernel)
        · exact CondB.len (A127.get (i := 19) rfl) (by decide +kernel)
        · exact CondB.len (A127.get (i := 18) rfl) (by decide +kernel)
        · exact .inl ⟨rfl, _, .base (.lst (A127.get (i := 17) rfl)), kit_ty (by decide +kernel)⟩
        · exact CondB.pl N (A127.get (i := 16) rfl) (by decide +kernel) (by decide +kernel)
        · exact CondB.pl N (A127.get (i := 15) rfl) (by decide +kernel) (by decide +kernel)
        · exact CondB.pl N (A127.get (i := 13) rfl) (by decide +kernel) (by decide +kernel)
        · exact CondB.pl N (A127.get (i := 12) rfl) (by decide +kernel) (by decide +kernel)
        · exact CondB.pl N (A127.get (i := 11) rfl) (by decide +kernel) (by decide +kernel)
        · exact CondB.pl N (A127.get (i := 10) rfl) (by decide +kernel) (by decide +kernel)
        · exact CondB.pl N (A127.get (i := 9) rfl) (by decide +kernel) (by decide +kernel)
        · exact CondB.pl N (A127.get (i := 6) rfl) (by decide +kernel) (by decide +kernel)
        · exact .inr ⟨_, _, rfl, (A127.get (i := 4) rfl), .inr ⟨_, _, _, true, false, true, rfl, NameS.nm (NameS.of (by decide +kernel)), .inr ⟨rfl, _, .base (.lst (A127.get (i := 5) rfl)), kit_ty (by decide +kernel)⟩, .inl ⟨rfl, _, .inl ⟨1, rfl, rfl⟩⟩, rfl⟩⟩
        · exact CondB.pl N (A127.get (i := 3) rfl) (by decide +kernel) (by decide +kernel)
        · exact .inl ⟨rfl, _, .base (.str _), kit_ty (by decide +kernel)⟩
        · exact CondB.pl N (A127.get (i := 2) rfl) (by decide +kernel) (by decide +kernel)
      have hlg := Zp.sm (A127.get (i := 21) rfl)
      have hlo := Zp.sm (A127.get (i := 0) rfl)
      obtain ⟨gs, egs⟩ : ∃ gs, gs = [V.ref l101, .ref l103, .ref l104, .ref l105] := ⟨_, rfl⟩
      obtain ⟨os, eos⟩ : ∃ os, os = [V.non, .ref l107, .ref l108, .ref l109, .ref l110, .ref l111, .ref l112] ++ [V.ref l114, .ref l115, .ref l116, .ref l117, .ref l118] ++ [V.ref l121, .ref l123, .ref l124, .str "xab", .ref l125] := ⟨_, rfl⟩
      have los : os.length = 17 := by rw [eos]; rfl
      have cg : ∀ d : Nat, d < 4 → cutV gs none (some (d : Int)) = gs.take d ∧ cutV gs (some (d : Int)) none = gs.drop d := fun d hd => by rw [egs]; exact cut4 hd
      have lgs : gs.length = 4 := by rw [egs]; rfl
      rw [← egs] at hg hlg
      rw [← eos] at ho hlo
      clear egs eos
      have s0 := A127.s
      have r0 := A127.r
      clear A101 A102 A103 A104 A105 A106 A107 A108 A109 A110 A111 A112 A113 A114 A115 A116 A117 A118 A119 A120 A121 A122 A123 A124 A125 A126 A127
      generalize H127 = HB at *
      refine ⟨_, rfl, p, 4, rfl, r0, by decide, by decide, fun d HD d0' d1' kpD RD => ?_⟩
      obtain ⟨j, rfl⟩ : ∃ j : Nat, d = (j : Int) := ⟨d.toNat, by omega⟩
      have hj : j < 4 := by omega
      have hloO : off HB p l127 = some (.lst os) := by rw [off_ne hlo.1]; exact hlo.2.1
      have hlgO : off HB p l106 = some (.lst gs) := by rw [off_ne hlg.1]; exact hlg.2.1
      have AD : At p HB HD [] := (At.nil r0).kp kpD RD
      refine ⟨_, rfl, _, rfl, _, rfl, l106, _, rfl, SqL.of (AD.s _ _ hlgO), fun m1 n1 => ?_⟩
      rw [(cg j hj).1]
      have A1 := AD.new (o := .lst (gs.take j)) n1 (fun _ z => by cases z)
      generalize upd HD m1 (.lst (gs.take j)) = H1 at A1 ⊢
      refine ⟨_, rfl, _, rfl, p, l127, os, rfl, A1.r, A1.s _ _ hloO, hlo.1, by omega, by omega, fun v H2 mv kp2 R2 => ?_⟩
      have A2 := A1.kp kp2 R2
      refine ⟨(by show 1 ≤ sizeLine; decide), fun m2 n2 => ?_⟩
      have A3 := A2.new (o := .lst [v]) n2 (fun _ z => by cases z)
      generalize upd H2 m2 (.lst [v]) = H3 at A3 ⊢
      refine ⟨m1, m2, _, _, rfl, rfl, A3.at (i := 1) rfl, A3.at (i := 0) rfl, (by simp only [List.length_take, List.length_singleton, lgs, sizeLine_eq]; omega), fun m3 n3 => ?_⟩
      have A4 := A3.new (o := .lst (gs.take j ++ [v])) n3 (fun _ z => by cases z)
      generalize upd H3 m3 (.lst (gs.take j ++ [v])) = H4 at A4 ⊢
      refine ⟨_, rfl, _, rfl, _, rfl, l106, _, rfl, SqL.of (A4.s _ _ hlgO), fun m4 n4 => ?_⟩
      rw [(cg j hj).2]
      have A5 := A4.new (o := .lst (gs.drop j)) n4 (fun _ z => by cases z)
      generalize upd H4 m4 (.lst (gs.drop j)) = H5 at A5 ⊢
      refine ⟨m3, m4, _, _, rfl, rfl, A5.at (i := 1) rfl, A5.at (i := 0) rfl, (by simp only [List.length_take, List.length_drop, List.length_append, List.length_singleton, lgs, sizeLine_eq]; omega), fun m5 n5 => ?_⟩
      have A6 := A5.new (o := .lst (gs.take j ++ [v] ++ gs.drop j)) n5 (fun _ z => by cases z)
      generalize upd H5 m5 (.lst (gs.take j ++ [v] ++ gs.drop j)) = H6 at A6 ⊢
      obtain ⟨xs, exs⟩ : ∃ xs, xs = gs.take j ++ [v] ++ gs.drop j := ⟨_, rfl⟩
      have lxs : xs.length = 5 := by rw [exs]; simp only [List.length_take, List.length_drop, List.length_append, List.length_singleton, lgs]; omega
      rw [← exs] at A6
      refine ⟨fun z G => ∃ (fa : Addr) (tl : List V), z = [some (.ref p), some (.ref l106), some (.ref l127), some (.int j), some (.ref fa)] ∧ At p HB G [(fa, .lst (xs ++ tl))] ∧ tl.length ≤ 1, ?_, ?_⟩
      · refine ⟨_, rfl, p, 2, rfl, A6.r, by decide, by decide, fun d1 G1 _ _ kq R1 => ?_⟩
        have B1 := A6.kp kq R1
        refine ⟨rfl, _, rfl, ?_⟩
        refine ite2 (fun _ => ?_) (fun _ => ?_)
        · refine ⟨_, rfl, _, rfl, _, rfl, p, l127, os, rfl, B1.r, B1.s _ _ hloO, hlo.1, by omega, by omega, fun u G2 mu kp R2 => ?_⟩
          have B2 := B1.kp kp R2
          refine ⟨(by show 1 ≤ sizeLine; decide), fun q1 w1 => ?_⟩
          have B3 := B2.new (o := .lst [u]) w1 (fun _ z => by cases z)
          generalize upd G2 q1 (.lst [u]) = G3 at B3 ⊢
          refine ⟨m5, q1, _, _, rfl, rfl, B3.at (i := 1) rfl, B3.at (i := 0) rfl, (by rw [lxs]; show 5 + 1 ≤ sizeLine; decide), fun q2 w2 => ?_⟩
          exact ⟨q2, [u], rfl, (B3.new (o := .lst (xs ++ [u])) w2 (fun _ z => by cases z)).head, Nat.le_refl _⟩
        · exact ⟨m5, [], rfl, by rw [List.append_nil]; exact B1.head, Nat.zero_le _⟩
      · rintro z G ⟨fa, tl, rfl, B, ltl⟩
        have sp := spot_at (v := v) (tl := tl) (by omega : j ≤ gs.length)
        rw [← exs] at sp
        have fin : ∀ {G' : Hp} {c wa : Addr} {t : Value}, At p HB G' [] → c ≠ p → G' c = some (.tup [.ref wa, .int j]) → TyX K (Zp p G') (.ref wa) t → PySem.W.kitAny K t [.type "list", .type "tuple"] = some true → (SqL K (Zp p G') wa (xs ++ tl) ∨ SqT K (Zp p G') wa (xs ++ tl)) → Q (.ref c) G' := by
          intro G' c wa t A' cn hc ty kt sq
          have zz : Same (Zp p HB) (Zp p G') := Zp.offs A'.s
          exact k c (.ref wa) (.int j) _ (fun b o e => A'.s b o (by rw [off_ne (off_some e).1]; exact s0 b o e)) A'.r cn hc (.inr ⟨wa, xs ++ tl, t, j, v, rfl, rfl, ty, kt, sq, by rw [List.length_append, lxs]; omega, sp.1, (ho v mv).same zz, fun i u hi hu => (hg u (sp.2 i u hi hu)).same zz⟩)
        refine ⟨_, rfl, p, 2, rfl, B.r, by decide, by decide, fun d2 G1 _ _ kq R1 => ?_⟩
        have B1 := B.kp kq R1
        refine ⟨rfl, _, rfl, ?_⟩
        refine ite2 (fun _ => ?_) (fun _ => ?_)
        · refine ⟨_, rfl, _, rfl, (by show 2 ≤ sizeLine; decide), fun t nt => ?_⟩
          have B2 := B1.new (o := .tup [.ref fa, .int j]) nt (fun _ z => by cases z)
          exact fin (t := .type "list") B2.bare (B1.r.ne_new' nt) upd_same (.base (.lst (B2.get (i := 1) rfl))) kit_list (.inl (SqL.of (B2.get (i := 1) rfl)))
        · refine ⟨_, rfl, fa, _, rfl, .inl ⟨SqL.of (B1.at (i := 0) rfl), fun q3 w3 => ?_⟩⟩
          have B3 := B1.new (o := .tup (xs ++ tl)) w3 (fun _ z => by cases z)
          generalize upd G1 q3 (.tup (xs ++ tl)) = G2 at B3 ⊢
          refine ⟨_, rfl, (by show 2 ≤ sizeLine; decide), fun t nt => ?_⟩
          have B4 := B3.new (o := .tup [.ref q3, .int j]) nt (fun _ z => by cases z)
          exact fin (t := .type "tuple") B4.bare (B3.r.ne_new' nt) upd_same (.base (.tup (B4.get (i := 1) rfl))) kit_tuple (.inr (SqT.of (B4.get (i := 1) rfl)))
end
end K18
set_option maxHeartbeats 4000000
/-! {k: v}, k a tuple. -/
namespace GL
open PySem PySem.Spec PyProof.Rows L2
/-- {k: v} with k a tuple of ints and texts; the new dict stands empty while key and value are made -/
def tDispT (tk tv : TE) : TE := fun σ H Q => ∀ p, H p = none → tk σ (upd H p (.dT [])) fun x H1 => tv σ H1 fun y H2 => H2 p = some (.dT []) ∧ ∃ (k : List Key) (b : Addr), x = .ref b ∧ H2 b = some (.tup (k.map kV)) ∧ Q (.ref p) (upd H2 p (.dT [(k, y)]))
theorem pe_dispT {X : Cx} {pos : Pos} {k v : Expr} {tk tv : TE} (hu : X.A.units < cLine) (hk : PE X k tk) (hv : PE X v tv) : PE X (.Dict [some k] [v] pos) (tDispT tk tv) := by
  refine ⟨fun pins s σ H Q I q => ?_⟩
  have hn := I.hok.fresh (Nat.le_refl s.heap.objs.size)
  have I1 := I.laid (a := s.heap.objs.size) (o := .dT []) (h' := s.heap.push { cls := .type "dict", data := .dict #[] }) (t' := s.toks) (fun _ _ q => Heap.get?_push_of_some _ q) (Nat.le_refl _) (dt_empty s.heap I.big)
  have q0 := q _ hn
  rw [arm_eval_Dict, zip_pairTrees [some k] [v] X.env pos rfl rfl, dictDisplay_pairs _ (by intro z; cases z) (by show 1 < 17; decide)]
  refine wpAny_bind (wpAny_standAt (wpAny_bind (wpAny_subDictH (knd := tupleKind (mixKind X.prog X.w)) (Q := fun d s' => wpAny (model X.prog X.w) X.A (pure (Value.ref d)) (EP X pins σ Q) X.xe s') hu (by show 1 ≤ 15; decide) ?_)))
  refine thn ((pps_cons hk hv pps_nil).run pins _ σ _ (fun ps H2 => match ps with
    | [(x, y)] => H2 s.heap.objs.size = some (.dT []) ∧ ∃ (k : List Key) (b : Addr), x = .ref b ∧ H2 b = some (.tup (k.map kV)) ∧ Q (.ref s.heap.objs.size) (upd H2 s.heap.objs.size (.dT [(k, y)]))
    | _ => False) I1 q0) fun ws s2 ⟨ps, H2, I2, rel, q2⟩ => ?_
  match ps, rel, q2 with
  | [(x, y)], rel, ⟨e, k, b, ex, eb, q3⟩ =>
    subst ex
    cases rel with
    | @cons p0 w0 _ ws0 h t =>
      cases t
      obtain ⟨u, r⟩ := w0
      obtain ⟨ru, rv⟩ := h
      replace ru : RelV (.ref b) u := ru
      replace rv : RelV y r := rv
      cases (show u = Value.ref b from ru)
      obtain ⟨z, hd, xs, rk, dd⟩ := dt_of I2.hok e
      have rk0 := rk
      cases rk0
      refine ⟨[(k, b, r)], ⟨rfl, rfl, key_of I2.hok eb, trivial⟩, dd, fun h' tk' dd' hs => wpAny_pure ⟨.ref s.heap.objs.size, _, ?_, rfl, q3⟩⟩
      obtain ⟨q, es, ep, hq, h2, h3, h4, _, h5⟩ := dd'
      refine d_write I2 (by rw [e]; exact True.intro) hs ⟨q, hq⟩ ⟨by show 1 ≤ sizeLine; decide, hd, _, (rk.put k eb rv).keeps fun c ys ec => ?_, q, es, ep, hq, h2, h3, h4, h5⟩
      rw [upd_ne (ne_of ec e (fun z => nomatch z))]
      exact ec
end GL
set_option maxHeartbeats 4000000
namespace K18
open PySem PySem.Spec PyProof.Rows L2 GL StX
abbrev sOddShifts : Stmt := tp 43
theorem ne_xa : ¬ (Str.ofString "x" = Str.ofString "a1") := by decide +kernel
theorem ne_yx : ¬ (Str.ofString "y" = Str.ofString "x") := by decide +kernel
theorem ne_zx : ¬ (Str.ofString "z" = Str.ofString "x") := by decide +kernel
theorem ne_zy : ¬ (Str.ofString "z" = Str.ofString "y") := by decide +kernel
theorem ne_xy : ¬ (Str.ofString "x" = Str.ofString "y") := by decide +kernel
theorem upd_new_ne {H : Hp} {d t : Addr} {o : HO} (n : upd H d o t = none) : t ≠ d := by
  rintro rfl
  rw [upd_same] at n
  cases n
theorem upd3 {H : Hp} {d t : Addr} {a b c : HO} (h : t ≠ d) : upd (upd (upd H d a) t b) d c = upd (upd H d c) t b := by
  funext x
  by_cases h1 : x = d
  · subst h1
    rw [upd_same, upd_ne (fun z => h z.symm), upd_same]
  · by_cases h2 : x = t
    · subst h2
      rw [upd_ne h1, upd_same, upd_same]
    · rw [upd_ne h1, upd_ne h2, upd_ne h1, upd_ne h2, upd_ne h1]
theorem At.dispT {p : Addr} {H0 H : Hp} {L : List (Addr × HO)} {d t : Addr} {o0 ks o : HO} (A : At p H0 H L) (n : H d = none) (nt : upd H d o0 t = none) (t1 : ∀ ps, ks ≠ .tbl ps) (t2 : ∀ ps, o ≠ .tbl ps) : At p H0 (upd (upd (upd H d o0) t ks) d o) ((t, ks) :: (d, o) :: L) := by
  have ne := upd_new_ne nt
  rw [upd3 ne]
  rw [upd_ne ne] at nt
  exact (A.new n t2).new (by rw [upd_ne ne]; exact nt) t1
section
variable {P : Program} {w : World} {K : PySem.W.Frag} {mg : Str → Option Value} {base : Heap}
/-- what is no dict of moves, and the name of the first that is none -/
def MovesBad (K : PySem.W.Frag) (H : Hp) (mv due : V) : Prop :=
  (due = .non ∧ ((mv ≠ .non ∧ ∃ t, TyX K H mv t ∧ PySem.W.kitOne K t (.type "dict") = some false) ∨ (∃ (d : Addr) (kvs : List (List Key × V)), mv = .ref d ∧ H d = some (.dT kvs) ∧ kvs.length ≤ 1000 ∧ kvs ≠ []) ∨
    ∃ (d : Addr) (kvs : List (Key × V)), mv = .ref d ∧ H d = some (.dK kvs) ∧ kvs.length ≤ 1000 ∧ (∀ kv ∈ kvs, KeyOk kv.1) ∧ (kvs.all fun kv => keyNm kv.1) = false)) ∨
  ∃ (d : Addr) (kvs : List (Key × V)) (ks : List Str) (u : Str) (v : V), due = .str u ∧ mv = .ref d ∧ H d = some (.dK kvs) ∧ kvs.length ≤ 1000 ∧ (∀ kv ∈ kvs, KeyOk kv.1) ∧ (kvs.all fun kv => keyNm kv.1) = true ∧ kvs.map (·.1) = ks.map Sum.inr ∧ ks.length < 64 ∧ (∀ ys : List Str, ys.Perm ks → sortedS ys = true → ys[0]? = some u) ∧ valV kvs (.inr u) = some v ∧ MvB K H v false
theorem MovesBad.same {H H' : Hp} {mv due : V} (h : MovesBad K H mv due) (k : Same H H') : MovesBad K H' mv due := by
  rcases h with ⟨e, ⟨n, t, ty, no⟩ | ⟨d, kvs, e1, hd, r⟩ | ⟨d, kvs, e1, hd, r⟩⟩ | ⟨d, kvs, ks, u, v, e1, e2, hd, l, ok, nm, ek, l2, so, hv, bad⟩
  · exact .inl ⟨e, .inl ⟨n, t, TyX.same' ty k, no⟩⟩
  · exact .inl ⟨e, .inr (.inl ⟨d, kvs, e1, k _ _ hd, r⟩)⟩
  · exact .inl ⟨e, .inr (.inr ⟨d, kvs, e1, k _ _ hd, r⟩)⟩
  · exact .inr ⟨d, kvs, ks, u, v, e1, e2, k _ _ hd, l, ok, nm, ek, l2, so, hv, bad.same k⟩
/-- what is no Move -/
structure NoM (K : PySem.W.Frag) : Prop where
  n : PySem.W.kitOne K (.type "NoneType") (.ref (aM K)) = some false
  i : PySem.W.kitOne K (.type "int") (.ref (aM K)) = some false
  t : PySem.W.kitOne K (.type "tuple") (.ref (aM K)) = some false
  s : PySem.W.kitOne K (.type "str") (.ref (aM K)) = some false
  d : PySem.W.kitOne K (.type "dict") (.ref (aM K)) = some false
  r : PySem.W.kitOne K (.ref (aR K)) (.ref (aM K)) = some false
/-- Move is made -/
structure MkM (P : Program) (w : World) (K : PySem.W.Frag) (mg : Str → Option Value) (base : Heap) : Prop where
  T : MF K mg
  mM : ∃ f fd, Mk K (aM K) f ∧ FnOk P w K mg base CX0 6 f fd ["self", "divisor", "plus", "low", "high"] (spMInit K) ∧ Binds K fd ["self", "divisor", "plus", "low", "high"] []
theorem made_mov {H : Hp} {R : VK} {E : XK} {x dx : Addr} {d : Int} {a b c : Int} (hx : H x = none) (hd : H dx = none) (d1 : 1 ≤ d) (sb : Sz 100000 (b : Rat)) (sc : Sz 100000 (c : Rat)) (le : rBelow (c : Rat) (b : Rat) = false) (k : ∀ H', Same H H' → MovAt K H' x d (a : Rat) (b : Rat) (c : Rat) → R .non H') :
    spMInit K [.ref x, .int d, .int a, .int b, .int c] (upd (upd H dx (.own x)) x (.ins (aM K) dx [])) R E :=
  ⟨x, dx, d, _, _, _, _, _, _, rfl, upd_same, d1, .inl ⟨a, rfl, rfl⟩, .inl ⟨b, rfl, rfl⟩, .inl ⟨c, rfl, rfl⟩, sb, sc, le, fun H' kp m => k H' (fun b o e => kp b o (ne_of_none e hx) (by rw [upd_ne (ne_of_none e hx), upd_ne (ne_of_none e hd)]; exact e)) m⟩
theorem szI {n : Nat} {i : Int} (h : i.natAbs < 2 ^ n) (n0 : 0 < n) : Sz n (i : Rat) := ⟨by rw [Rat.num_intCast]; exact h, by rw [Rat.den_intCast]; exact Nat.one_lt_two_pow (by omega)⟩
theorem keyOk_of {s : Str} (h : (decide (s.length ≤ 100) && (Txt.split s ".").all (fun u => decide (u.length ≤ 1000))) = true) : KeyOk (.inr s) := by
  simp only [Bool.and_eq_true, decide_eq_true_eq, List.all_eq_true] at h
  exact h
def spOddShifts (K : PySem.W.Frag) : Sp := fun vs H Q _ => ∃ p : Addr, vs = [.ref p] ∧ Rng H p ∧ ∀ c mv due H', Same (off H p) H' → Rng H' p → c ≠ p → H' c = some (.tup [mv, due]) → MovesBad K (Zp p H') mv due → Q (.ref c) H'
abbrev nOddShifts : List Str := ["_law_pot_here", "_law_good", "_law_odd", "_law_wrong", "_law_found"]
theorem scOddShifts : FnScope nOddShifts ["_law_pot_here"] (defScope sOddShifts) := ⟨rfl, rfl, rfl, by decide +kernel, rfl, by decide +kernel, by decide +kernel⟩
theorem ok_oddShifts {f : Addr} {fd : FuncData} (F : Fun K "_law_odd_shifts" "_law_odd_shifts" sOddShifts f fd) (dr : DefF P w K mg base "_law_draw" 1 ["_law_pot_here", "_law_many"] spDraw) (pk : DefF P w K mg base "_law_pick" 2 ["_law_pot_here", "_law_some"] (spChoice K)) (G : RG P w K mg base) (M : MkM P w K mg base) (N : NoM K) (gDi : mg "dict" = none) : FnOk P w K mg base CX0 8 f fd ["_law_pot_here"] (spOddShifts K) := by
  obtain ⟨fC, fdC, GC_, gC, bC, kC⟩ := pk
  obtain ⟨fD, fdD, GD, gD, bD, kD⟩ := dr
  obtain ⟨fR, fdR, dR, MR, GR, vR, bR, _⟩ := G.mR
  obtain ⟨fM, fdM, MM, GM, bM⟩ := M.mM
  have TR := G.T
  have TM := M.T
  refine F.ok scOddShifts (fun vs H Q E h => ?_) (fun cdv A outer s H vs Q E hr h => ?_)
  · obtain ⟨p, rfl, _⟩ := h
    rfl
  · obtain ⟨p, rfl, R, k⟩ := h
    have hu0 := hr.units
    have hu : (A.deeper (envOfC "_law_odd_shifts" (defScope sOddShifts) s.heap.objs.size f cdv)).units < cLine := by omega
    refine ⟨_, pss_cons (ps_set (i := 1) scOddShifts.nd rfl (Or.inl rfl) (pe_make MM GM hr rfl TM.gM bM .nil pass0 (pa_cons pe_int (pa_cons pe_int (pa_cons pe_int (pa_cons pe_int pa_nil))))))
      (pss_cons (ps_if (pt_cmpR op_eq (pe_call GD (hr.mono (by decide)) rfl gD kD bD .nil pass0 (pa_cons (pv 0) (pa_cons pe_int pa_nil))) pe_int (nomark _)) (pss_cons (ps_set (i := 2) scOddShifts.nd rfl (Or.inl rfl) (pe_lst (pa_cons (pe_lst pa_nil) (pa_cons (pe_tup pa_nil) (pa_cons pe_str (pa_cons pe_int (pa_cons (pe_disp (pps_cons pe_int (pv 1) pps_nil) (by rfl) (by rfl) (fun z => by cases z) (by decide)) (pa_cons (pe_disp (pps_cons pe_str (pv 1) pps_nil) (by rfl) (by rfl) (fun z => by cases z) (by decide)) (pa_cons (pe_disp (pps_cons pe_str (pv 1) pps_nil) (by rfl) (by rfl) (fun z => by cases z) (by decide)) (pa_cons (pe_dispT hu (pe_tup (pa_cons pe_str pa_nil)) (pv 1)) (pa_cons (pe_disp (pps_cons pe_str (pv 1) (pps_cons pe_str (pv 1) pps_nil)) (by rfl) (by rfl) (fun z => by cases z) (by decide)) pa_nil))))))))))) (pss_one (ps_ret (pe_tup (pa_cons (pe_call GC_ (hr.mono (by decide)) rfl gC kC bC .nil pass0 (pa_cons (pv 0) (pa_cons (pv 2) pa_nil))) (pa_cons pe_non pa_nil)))))) pss_nil)
      (pss_cons (ps_set (i := 3) scOddShifts.nd rfl (Or.inl rfl) (pe_call GC_ (hr.mono (by decide)) rfl gC kC bC .nil pass0 (pa_cons (pv 0) (pa_cons (pe_lst (pa_cons pe_non (pa_cons pe_int (pa_cons (pe_tup (pa_cons pe_int (pa_cons pe_int (pa_cons pe_int (pa_cons pe_int pa_nil))))) (pa_cons pe_str (pa_cons (pe_make MR GR (hr.mono (by decide)) rfl TR.gR bR vR pass0 (pa_cons pe_int pa_nil)) (pa_cons pe_dnewK pa_nil))))))) pa_nil))))
      (pss_cons (ps_set (i := 4) scOddShifts.nd rfl (Or.inl rfl) (pe_lst (pa_cons (pe_lst (pa_cons (pe_tup (pa_cons pe_str (pa_cons (pv 3) pa_nil))) pa_nil)) (pa_cons (pe_lst (pa_cons (pe_tup (pa_cons pe_str (pa_cons (pv 1) pa_nil))) (pa_cons (pe_tup (pa_cons pe_str (pa_cons (pv 3) pa_nil))) pa_nil))) (pa_cons (pe_lst (pa_cons (pe_tup (pa_cons pe_str (pa_cons (pv 3) pa_nil))) (pa_cons (pe_tup (pa_cons pe_str (pa_cons (pv 3) pa_nil))) (pa_cons (pe_tup (pa_cons pe_str (pa_cons (pv 1) pa_nil))) pa_nil)))) pa_nil)))))
      (pss_one (ps_ret (pe_tup (pa_cons (pe_callTy (call_dictP rfl) (by rfl) gDi (by decide +kernel) (pa_cons (pe_call GC_ (hr.mono (by decide)) rfl gC kC bC .nil pass0 (pa_cons (pv 0) (pa_cons (pv 4) pa_nil))) pa_nil)) (pa_cons pe_str pa_nil)))))))), ?_⟩
    intro g dg hg hdg neg
    refine made_mov hg hdg (by decide) (szI (by show 0 < 2 ^ 100000; exact Nat.two_pow_pos _) (by decide)) (szI (by show 1 < 2 ^ 100000; exact Nat.one_lt_two_pow (by decide)) (by decide)) (by decide +kernel) fun HG sG mg_ => ⟨rfl, ?_⟩
    obtain ⟨_, _, gdx, ga, gb, gc, eg, _⟩ := mg_
    have AG := ((At.nil R).same sG).add eg (R.ne_new' hg) (fun _ z => by cases z)
    refine ⟨_, rfl, p, 2, rfl, AG.r, by decide, by decide, fun d0 H0 _ _ kp0 R0 => ?_⟩
    have A0 := AG.kp kp0 R0
    clear AG
    refine ⟨rfl, _, rfl, ?_⟩
    refine ite2 (fun _ => ?_) (fun _ => ?_)
    · refine ⟨(by show 0 ≤ sizeLine; decide), fun l1 n1 => ?_⟩
      have A1 := A0.new (o := .lst []) n1 (fun _ z => by cases z)
      generalize upd H0 l1 (.lst []) = H1 at A1 ⊢
      refine ⟨(by show 0 ≤ sizeLine; decide), fun l2 n2 => ?_⟩
      have A2 := A1.new (o := .tup []) n2 (fun _ z => by cases z)
      generalize upd H1 l2 (.tup []) = H2 at A2 ⊢
      intro l3 n3
      refine ⟨_, rfl, upd_same, [((Sum.inl 1 : Key), V.ref g)], rfl, by show 1 ≤ 15; decide, ?_⟩
      rw [upd_upd, show mergeK [] [((Sum.inl 1 : Key), V.ref g)] = [((Sum.inl 1 : Key), V.ref g)] from by simp [mergeK, putK, ne_xa]]
      have A3 := A2.new (o := .dK [((Sum.inl 1 : Key), V.ref g)]) n3 (fun _ z => by cases z)
      generalize upd H2 l3 (.dK [((Sum.inl 1 : Key), V.ref g)]) = H3 at A3 ⊢
      intro l4 n4
      refine ⟨_, rfl, upd_same, [((Sum.inr ("X" : Str) : Key), V.ref g)], rfl, by show 1 ≤ 15; decide, ?_⟩
      rw [upd_upd, show mergeK [] [((Sum.inr ("X" : Str) : Key), V.ref g)] = [((Sum.inr ("X" : Str) : Key), V.ref g)] from by simp [mergeK, putK, ne_xa]]
      have A4 := A3.new (o := .dK [((Sum.inr ("X" : Str) : Key), V.ref g)]) n4 (fun _ z => by cases z)
      generalize upd H3 l4 (.dK [((Sum.inr ("X" : Str) : Key), V.ref g)]) = H4 at A4 ⊢
      intro l5 n5
      refine ⟨_, rfl, upd_same, [((Sum.inr ("" : Str) : Key), V.ref g)], rfl, by show 1 ≤ 15; decide, ?_⟩
      rw [upd_upd, show mergeK [] [((Sum.inr ("" : Str) : Key), V.ref g)] = [((Sum.inr ("" : Str) : Key), V.ref g)] from by simp [mergeK, putK, ne_xa]]
      have A5 := A4.new (o := .dK [((Sum.inr ("" : Str) : Key), V.ref g)]) n5 (fun _ z => by cases z)
      generalize upd H4 l5 (.dK [((Sum.inr ("" : Str) : Key), V.ref g)]) = H5 at A5 ⊢
      intro l6 n6
      refine ⟨(by show 1 ≤ sizeLine; decide), fun l7 n7 => ?_⟩
      refine ⟨_, rfl, (upd_ne (upd_new_ne n7).symm).trans upd_same, [Sum.inr ("x" : Str)], l7, rfl, upd_same, ?_⟩
      have A7 := A5.dispT (ks := .tup [V.str "x"]) (o := .dT [([(Sum.inr ("x" : Str) : Key)], V.ref g)]) n6 n7 (fun _ z => by cases z) (fun _ z => by cases z)
      generalize upd (upd (upd H5 l6 (.dT [])) l7 (.tup [V.str "x"])) l6 (.dT [([(Sum.inr ("x" : Str) : Key)], V.ref g)]) = H7 at A7 ⊢
      intro l8 n8
      refine ⟨_, rfl, _, rfl, upd_same, [((Sum.inr ("x" : Str) : Key), V.ref g), ((Sum.inr ("a1" : Str) : Key), V.ref g)], rfl, by show 2 ≤ 15; decide, ?_⟩
      rw [upd_upd, show mergeK [] [((Sum.inr ("x" : Str) : Key), V.ref g), ((Sum.inr ("a1" : Str) : Key), V.ref g)] = [((Sum.inr ("x" : Str) : Key), V.ref g), ((Sum.inr ("a1" : Str) : Key), V.ref g)] from by simp [mergeK, putK, ne_xa]]
      have A8 := A7.new (o := .dK [((Sum.inr ("x" : Str) : Key), V.ref g), ((Sum.inr ("a1" : Str) : Key), V.ref g)]) n8 (fun _ z => by cases z)
      generalize upd H7 l8 (.dK [((Sum.inr ("x" : Str) : Key), V.ref g), ((Sum.inr ("a1" : Str) : Key), V.ref g)]) = H8 at A8 ⊢
      refine ⟨(by show 9 ≤ sizeLine; decide), fun l9 n9 => ?_⟩
      have A9 := A8.new (o := .lst [V.ref l1, .ref l2, .str "x", .int 1, .ref l3, .ref l4, .ref l5, .ref l6, .ref l8]) n9 (fun _ z => by cases z)
      generalize upd H8 l9 (.lst [V.ref l1, .ref l2, .str "x", .int 1, .ref l3, .ref l4, .ref l5, .ref l6, .ref l8]) = H9 at A9 ⊢
      refine ⟨_, rfl, _, rfl, p, l9, _, rfl, A9.r, (A9.at (i := 0) rfl), (Zp.sm (A9.get (i := 0) rfl)).1, by show 0 < 9; decide, by show 9 < 1000; decide, fun v Hf mv kp Rf => ?_⟩
      have Af := A9.kp kp Rf
      refine ⟨(by show 2 ≤ sizeLine; decide), fun t nt => ?_⟩
      have AT := Af.new (o := .tup [v, .non]) nt (fun _ z => by cases z)
      refine k t v .non _ AT.s AT.r (Af.r.ne_new' nt) upd_same (.inl ⟨rfl, ?_⟩)
      simp only [List.mem_cons, List.not_mem_nil, or_false] at mv
      rcases mv with rfl | rfl | rfl | rfl | rfl | rfl | rfl | rfl | rfl
      · exact .inl ⟨(fun z => by cases z), _, .base (.lst (AT.get (i := 9) rfl)), kit_ty (by decide +kernel)⟩
      · exact .inl ⟨(fun z => by cases z), _, .base (.tup (AT.get (i := 8) rfl)), kit_ty (by decide +kernel)⟩
      · exact .inl ⟨(fun z => by cases z), _, .base (.str _), kit_ty (by decide +kernel)⟩
      · exact .inl ⟨(fun z => by cases z), _, .base (.int _), kit_ty (by decide +kernel)⟩
      · refine .inr (.inr ⟨_, _, rfl, (AT.get (i := 7) rfl), by show 1 ≤ 1000; decide, fun kv hk => by simp only [List.mem_cons, List.not_mem_nil, or_false] at hk; rcases hk with rfl <;> trivial, ?_⟩)
        rfl
      · refine .inr (.inr ⟨_, _, rfl, (AT.get (i := 6) rfl), by show 1 ≤ 1000; decide, fun kv hk => by simp only [List.mem_cons, List.not_mem_nil, or_false] at hk; rcases hk with rfl <;> exact keyOk_of (by decide +kernel), ?_⟩)
        simp only [List.all_cons, List.all_nil]; decide +kernel
      · refine .inr (.inr ⟨_, _, rfl, (AT.get (i := 5) rfl), by show 1 ≤ 1000; decide, fun kv hk => by simp only [List.mem_cons, List.not_mem_nil, or_false] at hk; rcases hk with rfl <;> exact keyOk_of (by decide +kernel), ?_⟩)
        simp only [List.all_cons, List.all_nil]; decide +kernel
      · exact .inr (.inl ⟨_, _, rfl, (AT.get (i := 4) rfl), by show 1 ≤ 1000; decide, (fun z => by cases z)⟩)
      · refine .inr (.inr ⟨_, _, rfl, (AT.get (i := 2) rfl), by show 2 ≤ 1000; decide, fun kv hk => by simp only [List.mem_cons, List.not_mem_nil, or_false] at hk; rcases hk with rfl | rfl <;> exact keyOk_of (by decide +kernel), ?_⟩)
        simp only [List.all_cons, List.all_nil]; decide +kernel
    · refine ⟨_, rfl, ?_⟩
      refine ⟨(by show 4 ≤ sizeLine; decide), fun l101 n101 => ?_⟩
      have A101 := A0.new (o := .tup [V.int 1, .int 0, .int 0, .int 1]) n101 (fun _ z => by cases z)
      generalize upd H0 l101 (.tup [V.int 1, .int 0, .int 0, .int 1]) = H101 at A101 ⊢
      intro l102 d102 hx102 hd102 ne102
      change spRInit K [.ref l102, .int 1, .int 1] _ _ _
      refine made_ratR hx102 hd102 ne102 (by decide) (by show 1 < 2 ^ 9000; exact Nat.one_lt_two_pow (by decide)) fun H102 s102 ⟨e102, r102⟩ => ⟨rfl, ?_⟩
      have A102 := (A101.same s102).add r102 (A101.r.ne_new' hx102) (fun _ z => by cases z)
      intro l103 n103
      have A103 := A102.new (o := .dK []) n103 (fun _ z => by cases z)
      generalize upd H102 l103 (.dK []) = H103 at A103 ⊢
      refine ⟨(by show 6 ≤ sizeLine; decide), fun l104 n104 => ?_⟩
      have A104 := A103.new (o := .lst [V.non, .int 1, .ref l101, .str "move", .ref l102, .ref l103]) n104 (fun _ z => by cases z)
      generalize upd H103 l104 (.lst [V.non, .int 1, .ref l101, .str "move", .ref l102, .ref l103]) = H104 at A104 ⊢
      refine ⟨p, l104, _, rfl, A104.r, (A104.at (i := 0) rfl), (Zp.sm (A104.get (i := 0) rfl)).1, by show 0 < 6; decide, by show 6 < 1000; decide, fun v Hf mv kp Rf => ?_⟩
      have Af := A104.kp kp Rf
      have s0 := Af.s
      have Ar := Af.restart
      have bad : MvB K (Zp p Hf) v false := by
        simp only [List.mem_cons, List.not_mem_nil, or_false] at mv
        rcases mv with rfl | rfl | rfl | rfl | rfl | rfl
        · exact ⟨_, .base .non, N.n⟩
        · exact ⟨_, .base (.int _), N.i⟩
        · exact ⟨_, .base (.tup (Ar.get (i := 3) rfl)), N.t⟩
        · exact ⟨_, .base (.str _), N.s⟩
        · exact ⟨_, RatAt.ty TR ⟨_, (Ar.get (i := 2) rfl)⟩, N.r⟩
        · exact ⟨_, .base (.dK (Ar.get (i := 1) rfl)), N.d⟩
      refine ⟨_, rfl, ?_⟩
      refine ⟨(by show 2 ≤ sizeLine; decide), fun l105 n105 => ?_⟩
      have A105 := Ar.new (o := .tup [V.str "x", v]) n105 (fun _ z => by cases z)
      generalize upd Hf l105 (.tup [V.str "x", v]) = H105 at A105 ⊢
      refine ⟨(by show 1 ≤ sizeLine; decide), fun l106 n106 => ?_⟩
      have A106 := A105.new (o := .lst [V.ref l105]) n106 (fun _ z => by cases z)
      generalize upd H105 l106 (.lst [V.ref l105]) = H106 at A106 ⊢
      refine ⟨_, rfl, ?_⟩
      refine ⟨(by show 2 ≤ sizeLine; decide), fun l107 n107 => ?_⟩
      have A107 := A106.new (o := .tup [V.str "y", .ref g]) n107 (fun _ z => by cases z)
      generalize upd H106 l107 (.tup [V.str "y", .ref g]) = H107 at A107 ⊢
      refine ⟨_, rfl, ?_⟩
      refine ⟨(by show 2 ≤ sizeLine; decide), fun l108 n108 => ?_⟩
      have A108 := A107.new (o := .tup [V.str "x", v]) n108 (fun _ z => by cases z)
      generalize upd H107 l108 (.tup [V.str "x", v]) = H108 at A108 ⊢
      refine ⟨(by show 2 ≤ sizeLine; decide), fun l109 n109 => ?_⟩
      have A109 := A108.new (o := .lst [V.ref l107, .ref l108]) n109 (fun _ z => by cases z)
      generalize upd H108 l109 (.lst [V.ref l107, .ref l108]) = H109 at A109 ⊢
      refine ⟨_, rfl, ?_⟩
      refine ⟨(by show 2 ≤ sizeLine; decide), fun l110 n110 => ?_⟩
      have A110 := A109.new (o := .tup [V.str "z", v]) n110 (fun _ z => by cases z)
      generalize upd H109 l110 (.tup [V.str "z", v]) = H110 at A110 ⊢
      refine ⟨_, rfl, ?_⟩
      refine ⟨(by show 2 ≤ sizeLine; decide), fun l111 n111 => ?_⟩
      have A111 := A110.new (o := .tup [V.str "x", v]) n111 (fun _ z => by cases z)
      generalize upd H110 l111 (.tup [V.str "x", v]) = H111 at A111 ⊢
      refine ⟨_, rfl, ?_⟩
      refine ⟨(by show 2 ≤ sizeLine; decide), fun l112 n112 => ?_⟩
      have A112 := A111.new (o := .tup [V.str "y", .ref g]) n112 (fun _ z => by cases z)
      generalize upd H111 l112 (.tup [V.str "y", .ref g]) = H112 at A112 ⊢
      refine ⟨(by show 3 ≤ sizeLine; decide), fun l113 n113 => ?_⟩
      have A113 := A112.new (o := .lst [V.ref l110, .ref l111, .ref l112]) n113 (fun _ z => by cases z)
      generalize upd H112 l113 (.lst [V.ref l110, .ref l111, .ref l112]) = H113 at A113 ⊢
      refine ⟨(by show 3 ≤ sizeLine; decide), fun l114 n114 => ?_⟩
      have A114 := A113.new (o := .lst [V.ref l106, .ref l109, .ref l113]) n114 (fun _ z => by cases z)
      generalize upd H113 l114 (.lst [V.ref l106, .ref l109, .ref l113]) = H114 at A114 ⊢
      refine ⟨_, rfl, _, rfl, p, l114, _, rfl, A114.r, (A114.at (i := 0) rfl), (Zp.sm (A114.get (i := 0) rfl)).1, by show 0 < 3; decide, by show 3 < 1000; decide, fun u Hz mu kz Rz => ?_⟩
      have Az := A114.kp kz Rz
      have bad2 : MvB K (Zp p Hz) v false := bad.same (Zp.offs Az.s)
      simp only [List.mem_cons, List.not_mem_nil, or_false] at mu
      rcases mu with rfl | rfl | rfl
      · refine ⟨_, [l105], [((Sum.inr ("x" : Str) : Key), v)], rfl, SqL.of (Az.at (i := 8) rfl), (.cons (SqT.of (Az.at (i := 9) rfl)) .nil), fun c nc => ?_⟩
        rw [show mergeK [] [((Sum.inr ("x" : Str) : Key), v)] = [((Sum.inr ("x" : Str) : Key), v)] from by simp [mergeK, putK, ne_yx, ne_zx, ne_zy, ne_xy]]
        have AC := Az.new (o := .dK [((Sum.inr ("x" : Str) : Key), v)]) nc (fun _ z => by cases z)
        have bad3 := bad2.same (Zp.same (same_new (o := .dK [((Sum.inr ("x" : Str) : Key), v)]) nc))
        generalize upd Hz c (.dK [((Sum.inr ("x" : Str) : Key), v)]) = HC at AC bad3 ⊢
        refine ⟨(by show 2 ≤ sizeLine; decide), fun t nt => ?_⟩
        have AT := AC.new (o := .tup [.ref c, .str "x"]) nt (fun _ z => by cases z)
        exact k t (.ref c) (.str "x") _ (fun b o e => AT.s b o (by rw [off_ne (off_some e).1]; exact s0 b o e)) AT.r (AC.r.ne_new' nt) upd_same (.inr ⟨c, _, [("x" : Str)], "x", v, rfl, rfl, AT.get (i := 1) rfl, by show 1 ≤ 1000; decide, fun kv hk => by simp only [List.mem_cons, List.not_mem_nil, or_false] at hk; rcases hk with rfl <;> exact keyOk_of (by decide +kernel), by simp only [List.all_cons, List.all_nil]; decide +kernel, rfl, by show 1 < 64; decide, (fun ys pm so => List.perm_singleton.mp pm ▸ rfl), by simp [valV, ne_yx, ne_zx, ne_zy, ne_xy], bad3.same (Zp.same (same_new nt))⟩)
      · refine ⟨_, [l107, l108], [((Sum.inr ("y" : Str) : Key), V.ref g), ((Sum.inr ("x" : Str) : Key), v)], rfl, SqL.of (Az.at (i := 5) rfl), (.cons (SqT.of (Az.at (i := 7) rfl)) (.cons (SqT.of (Az.at (i := 6) rfl)) .nil)), fun c nc => ?_⟩
        rw [show mergeK [] [((Sum.inr ("y" : Str) : Key), V.ref g), ((Sum.inr ("x" : Str) : Key), v)] = [((Sum.inr ("y" : Str) : Key), V.ref g), ((Sum.inr ("x" : Str) : Key), v)] from by simp [mergeK, putK, ne_yx, ne_zx, ne_zy, ne_xy]]
        have AC := Az.new (o := .dK [((Sum.inr ("y" : Str) : Key), V.ref g), ((Sum.inr ("x" : Str) : Key), v)]) nc (fun _ z => by cases z)
        have bad3 := bad2.same (Zp.same (same_new (o := .dK [((Sum.inr ("y" : Str) : Key), V.ref g), ((Sum.inr ("x" : Str) : Key), v)]) nc))
        generalize upd Hz c (.dK [((Sum.inr ("y" : Str) : Key), V.ref g), ((Sum.inr ("x" : Str) : Key), v)]) = HC at AC bad3 ⊢
        refine ⟨(by show 2 ≤ sizeLine; decide), fun t nt => ?_⟩
        have AT := AC.new (o := .tup [.ref c, .str "x"]) nt (fun _ z => by cases z)
        exact k t (.ref c) (.str "x") _ (fun b o e => AT.s b o (by rw [off_ne (off_some e).1]; exact s0 b o e)) AT.r (AC.r.ne_new' nt) upd_same (.inr ⟨c, _, [("y" : Str), ("x" : Str)], "x", v, rfl, rfl, AT.get (i := 1) rfl, by show 2 ≤ 1000; decide, fun kv hk => by simp only [List.mem_cons, List.not_mem_nil, or_false] at hk; rcases hk with rfl | rfl <;> exact keyOk_of (by decide +kernel), by simp only [List.all_cons, List.all_nil]; decide +kernel, rfl, by show 2 < 64; decide, (fun ys pm so => only2 (t := ["x", "y"]) (by decide +kernel) pm so ▸ rfl), by simp [valV, ne_yx, ne_zx, ne_zy, ne_xy], bad3.same (Zp.same (same_new nt))⟩)
      · refine ⟨_, [l110, l111, l112], [((Sum.inr ("z" : Str) : Key), v), ((Sum.inr ("x" : Str) : Key), v), ((Sum.inr ("y" : Str) : Key), V.ref g)], rfl, SqL.of (Az.at (i := 1) rfl), (.cons (SqT.of (Az.at (i := 4) rfl)) (.cons (SqT.of (Az.at (i := 3) rfl)) (.cons (SqT.of (Az.at (i := 2) rfl)) .nil))), fun c nc => ?_⟩
        rw [show mergeK [] [((Sum.inr ("z" : Str) : Key), v), ((Sum.inr ("x" : Str) : Key), v), ((Sum.inr ("y" : Str) : Key), V.ref g)] = [((Sum.inr ("z" : Str) : Key), v), ((Sum.inr ("x" : Str) : Key), v), ((Sum.inr ("y" : Str) : Key), V.ref g)] from by simp [mergeK, putK, ne_yx, ne_zx, ne_zy, ne_xy]]
        have AC := Az.new (o := .dK [((Sum.inr ("z" : Str) : Key), v), ((Sum.inr ("x" : Str) : Key), v), ((Sum.inr ("y" : Str) : Key), V.ref g)]) nc (fun _ z => by cases z)
        have bad3 := bad2.same (Zp.same (same_new (o := .dK [((Sum.inr ("z" : Str) : Key), v), ((Sum.inr ("x" : Str) : Key), v), ((Sum.inr ("y" : Str) : Key), V.ref g)]) nc))
        generalize upd Hz c (.dK [((Sum.inr ("z" : Str) : Key), v), ((Sum.inr ("x" : Str) : Key), v), ((Sum.inr ("y" : Str) : Key), V.ref g)]) = HC at AC bad3 ⊢
        refine ⟨(by show 2 ≤ sizeLine; decide), fun t nt => ?_⟩
        have AT := AC.new (o := .tup [.ref c, .str "x"]) nt (fun _ z => by cases z)
        exact k t (.ref c) (.str "x") _ (fun b o e => AT.s b o (by rw [off_ne (off_some e).1]; exact s0 b o e)) AT.r (AC.r.ne_new' nt) upd_same (.inr ⟨c, _, [("z" : Str), ("x" : Str), ("y" : Str)], "x", v, rfl, rfl, AT.get (i := 1) rfl, by show 3 ≤ 1000; decide, fun kv hk => by simp only [List.mem_cons, List.not_mem_nil, or_false] at hk; rcases hk with rfl | rfl | rfl <;> exact keyOk_of (by decide +kernel), by simp only [List.all_cons, List.all_nil]; decide +kernel, rfl, by show 3 < 64; decide, (fun ys pm so => only3 (t := ["x", "y", "z"]) (by decide +kernel) pm so ▸ rfl), by simp [valV, ne_yx, ne_zx, ne_zy, ne_xy], bad3.same (Zp.same (same_new nt))⟩)
end
end K18
set_option maxHeartbeats 4000000
namespace K18
open PySem PySem.Spec PyProof.Rows L2 GL StX
section
variable {K : PySem.W.Frag}
/-- conditions, all right -/
def WhenOk (K : PySem.W.Frag) (H : Hp) (wh : V) (xs : List V) : Prop := ∃ (a : Addr) (t : Value), wh = .ref a ∧ TyX K H wh t ∧ PySem.W.kitAny K t [.type "list", .type "tuple"] = some true ∧ (SqL K H a xs ∨ SqT K H a xs) ∧ xs.length ≤ 1000 ∧ ∀ v ∈ xs, CondB K H v true
theorem WhenOk.same {H H' : Hp} {wh : V} {xs : List V} (h : WhenOk K H wh xs) (k : Same H H') : WhenOk K H' wh xs := by
  obtain ⟨a, t, e, ty, kt, sq, l, all⟩ := h
  exact ⟨a, t, e, TyX.same' ty k, kt, sq.imp (fun h => L2.SqL.ext h k) (fun h => L2.SqT.ext h k), l, fun v hv => (all v hv).same k⟩
/-- moves, all right -/
def MovesOk (K : PySem.W.Frag) (H : Hp) (mv : V) : Prop := ∃ (d : Addr) (kvs : List (Key × V)) (ks : List Str), mv = .ref d ∧ H d = some (.dK kvs) ∧ kvs.length ≤ 1000 ∧ (∀ kv ∈ kvs, KeyOk kv.1) ∧ (kvs.all fun kv => keyNm kv.1) = true ∧ kvs.map (·.1) = ks.map Sum.inr ∧ ks.length < 64 ∧ ∀ u ∈ ks, ∃ v, valV kvs (.inr u) = some v ∧ MvB K H v true
theorem MovesOk.same {H H' : Hp} {mv : V} (h : MovesOk K H mv) (k : Same H H') : MovesOk K H' mv := by
  obtain ⟨d, kvs, ks, e, hd, l, ok, nm, ek, l2, all⟩ := h
  exact ⟨d, kvs, ks, e, k _ _ hd, l, ok, nm, ek, l2, fun u hu => by
    obtain ⟨v, hv, m⟩ := all u hu
    exact ⟨v, hv, m.same k⟩⟩
theorem WhenBad.self {H : Hp} {wh due : V} (h : WhenBad K H wh due) : selfV due = true := by
  rcases h with ⟨rfl, _⟩ | ⟨a, xs, t, j, v, rfl, _⟩ <;> rfl
theorem MovesBad.self {H : Hp} {mv due : V} (h : MovesBad K H mv due) : selfV due = true := by
  rcases h with ⟨rfl, _⟩ | ⟨d, kvs, ks, u, v, rfl, _⟩ <;> rfl
theorem ins_same {H : Hp} {x dx : Addr} {o : HO} (hx : H x = none) (hd : H dx = none) : Same H (upd (upd H dx (.own x)) x o) := fun b o e => by rw [upd_ne (ne_of_none e hx), upd_ne (ne_of_none e hd)]; exact e
theorem names2 {H : Hp} {g a : Str} (ng : NameS g) (na : NameS a) : ∀ v ∈ [V.str g, .str a], IsNm K H v true := fun v hv => by
  simp only [List.mem_cons, List.not_mem_nil, or_false] at hv
  rcases hv with rfl | rfl
  · exact ng.nm
  · exact na.nm
theorem chk_when {H : Hp} {wh : V} {xs : List V} {Q : VK} {E : XK} (w : WhenOk K H wh xs) (k : ∀ H', Same H H' → Q .non H') : spChkWhen K [wh] H Q E := by
  obtain ⟨a, t, e, ty, kt, sq, l, all⟩ := w
  exact ⟨_, rfl, .inr ⟨a, xs, t, e, ty, kt, sq, l, .inl ⟨all, k⟩⟩⟩
theorem RunsTo.same {oc : Oc} {tl : XK → Hp → VK → Prop} {H H' : Hp} (h : RunsTo K oc tl H) (k : Same H H') : RunsTo K oc tl H' := by
  cases oc with
  | made => exact fun E H1 R s o => h E H1 R (k.trans s) o
  | name v => exact fun E H1 R s o => h E H1 R (k.trans s) o
  | rule part v => exact fun E H1 R s o => h E H1 R (k.trans s) o
  | many => exact fun E H1 R s o => h E H1 R (k.trans s) o
theorem Rng.ext {p : Addr} {H H' : Hp} (R : Rng H p) (k : LamX.ExtN H H') : Rng H' p := by
  obtain ⟨x, y, e, r⟩ := R
  exact ⟨x, y, k _ _ e (fun _ z => by cases z), r⟩
theorem runs_many {H : Hp} {g a : Str} {wh mv : V} {xs : List V} (ng : NameS g) (na : NameS a) (w : WhenOk K H wh xs) (l8 : 8 < xs.length) (m : MovesOk K H mv) : RunsTo K .many (MakeR K (.str g) (.str a) wh mv) H := by
  intro E H1 R s o x dx hx hd ne
  have u0 := ins_same (o := .ins (aRu K) dx []) hx hd
  have ex : upd (upd H1 dx (.own x)) x (.ins (aRu K) dx []) x = some (.ins (aRu K) dx []) := upd_same
  generalize upd (upd H1 dx (.own x)) x (.ins (aRu K) dx []) = H2 at *
  refine ⟨x, dx, _, _, _, _, rfl, .inr ⟨names2 ng na, fun H3 s3 => ?_⟩⟩
  have uA := (s.trans u0).trans s3
  refine chk_when (w.same uA) fun H4 s4 => ?_
  have uB := uA.trans s4
  obtain ⟨d, kvs, ks, e, hd2, l, ok, nm, ek, l2, all⟩ := m.same uB
  refine ⟨_, rfl, .inr (.inr (.inr ⟨d, kvs, e, hd2, l, ok, .inr ⟨nm, ks, ek, l2, .inl ⟨all, fun H5 s5 => ?_⟩⟩⟩))⟩
  obtain ⟨aw, t, e1, _, _, sq, _⟩ := w.same (uB.trans s5)
  exact ⟨s5 _ _ (s4 _ _ (s3 _ _ ex)), aw, xs, e1, sq, .inl ⟨l8, o.same (((u0.trans s3).trans s4).trans s5)⟩⟩
theorem runs_moves {H : Hp} {g a : Str} {wh mv due : V} {xs : List V} (ng : NameS g) (na : NameS a) (w : WhenOk K H wh xs) (m : MovesBad K H mv due) : RunsTo K (.rule "moves" due) (MakeR K (.str g) (.str a) wh mv) H := by
  intro E H1 R s o x dx hx hd ne
  have u0 := ins_same (o := .ins (aRu K) dx []) hx hd
  generalize upd (upd H1 dx (.own x)) x (.ins (aRu K) dx []) = H2 at *
  refine ⟨x, dx, _, _, _, _, rfl, .inr ⟨names2 ng na, fun H3 s3 => ?_⟩⟩
  have uA := (s.trans u0).trans s3
  refine chk_when (w.same uA) fun H4 s4 => ?_
  have o4 := o.same ((u0.trans s3).trans s4)
  rcases m.same (uA.trans s4) with ⟨rfl, ⟨n, t, ty, no⟩ | ⟨d, kvs, e1, hd2, l, nn⟩ | ⟨d, kvs, e1, hd2, l, ok, nm⟩⟩ | ⟨d, kvs, ks, u, v, rfl, e2, hd2, l, ok, nm, ek, l2, so, hv, bad⟩
  · exact ⟨_, rfl, .inr (.inl ⟨n, ⟨t, ty, no⟩, o4⟩)⟩
  · exact ⟨_, rfl, .inr (.inr (.inl ⟨d, kvs, e1, hd2, l, nn, o4⟩))⟩
  · exact ⟨_, rfl, .inr (.inr (.inr ⟨d, kvs, e1, hd2, l, ok, .inl ⟨nm, o4⟩⟩))⟩
  · exact ⟨_, rfl, .inr (.inr (.inr ⟨d, kvs, e2, hd2, l, ok, .inr ⟨nm, ks, ek, l2, .inr fun ys pm ss => ⟨0, u, v, so ys pm ss, hv, bad, fun i u' hi => absurd hi (Nat.not_lt_zero _), o4⟩⟩⟩))⟩
theorem runs_when {H : Hp} {g a : Str} {wh mv due : V} (ng : NameS g) (na : NameS a) (w : WhenBad K H wh due) : RunsTo K (.rule "when" due) (MakeR K (.str g) (.str a) wh mv) H := by
  intro E H1 R s o x dx hx hd ne
  have u0 := ins_same (o := .ins (aRu K) dx []) hx hd
  generalize upd (upd H1 dx (.own x)) x (.ins (aRu K) dx []) = H2 at *
  refine ⟨x, dx, _, _, _, _, rfl, .inr ⟨names2 ng na, fun H3 s3 => ?_⟩⟩
  have o3 := o.same (u0.trans s3)
  rcases w.same ((s.trans u0).trans s3) with ⟨rfl, t, ty, no⟩ | ⟨aw, xs, t, j, v, rfl, e2, ty, kt, sq, l, hj, bad, bef⟩
  · exact ⟨_, rfl, .inl ⟨t, ty, no, o3⟩⟩
  · exact ⟨_, rfl, .inr ⟨aw, xs, t, e2, ty, kt, sq, l, .inr ⟨j, v, hj, bad, bef, o3⟩⟩⟩
theorem runs_ans {H : Hp} {g : Str} {v wh mv : V} (ng : NameS g) (b : IsNm K H v false) : RunsTo K (.name v) (MakeR K (.str g) v wh mv) H := by
  intro E H1 R s o x dx hx hd ne
  have u0 := ins_same (o := .ins (aRu K) dx []) hx hd
  generalize upd (upd H1 dx (.own x)) x (.ins (aRu K) dx []) = H2 at *
  refine ⟨x, dx, _, _, _, _, rfl, .inl ⟨1, v, rfl, b.same (s.trans u0), fun i u hi e => ?_, o.same u0⟩⟩
  obtain rfl : i = 0 := by omega
  cases e
  exact ng.nm
theorem runs_goal {H : Hp} {v a wh mv : V} (b : IsNm K H v false) : RunsTo K (.name v) (MakeR K v a wh mv) H := by
  intro E H1 R s o x dx hx hd ne
  have u0 := ins_same (o := .ins (aRu K) dx []) hx hd
  generalize upd (upd H1 dx (.own x)) x (.ins (aRu K) dx []) = H2 at *
  exact ⟨x, dx, _, _, _, _, rfl, .inl ⟨0, v, rfl, b.same (s.trans u0), fun i u hi e => absurd hi (Nat.not_lt_zero _), o.same u0⟩⟩
end
section
variable {p : Addr} {H0 H H1 : Hp} {d : Addr} {o0 o : HO} {L : List (Addr × HO)}
/-- a thing that is made, and then written -/
theorem At.put (A : At p H0 H L) (n : H d = none) (k : Same (upd H d o0) H1) (t : ∀ ps, o ≠ .tbl ps) : At p H0 (upd H1 d o) ((d, o) :: L) := by
  have up : Same H (upd H1 d o) := fun b o' e => by
    rw [upd_ne (ne_of_none e n)]
    exact k b o' (by rw [upd_ne (ne_of_none e n)]; exact e)
  exact (A.same up).add upd_same (A.r.ne_new' n) t
theorem At.drop (n : Nat) (A : At p H0 H L) : At p H0 H (L.drop n) := ⟨A.s, A.r, fun i x e => A.f (n + i) x (by rw [List.getElem?_drop] at e; exact e)⟩
theorem At.trans {L' : List (Addr × HO)} (A : At p H0 H L) (B : At p H H1 L') : At p H0 H1 L' := ⟨fun b o e => B.s b o (by rw [off_ne (off_some e).1]; exact A.s b o e), B.r, B.f⟩
/-- the parts and what is due, while they are set -/
structure Jn (F0 U : Hp) (p l : Addr) (vs : List V) (od : Option Oc) (du : Addr) (G : Hp) : Prop where
  f : Same F0 G
  h : Same U G
  r : Rng G p
  pl : G l = some (.lst vs)
  ne : du ≠ l
  d : G du = some (.lst (match od with | none => [] | some oc => ocL oc))
theorem Jn.same {F0 U G G' : Hp} {l du : Addr} {vs : List V} {od : Option Oc} (J : Jn F0 U p l vs od du G) (k : Same G G') : Jn F0 U p l vs od du G' := ⟨J.f.trans k, J.h.trans k, J.r.same' k, k _ _ J.pl, J.ne, k _ _ J.d⟩
theorem Jn.step {F0 U G : Hp} {l du du2 : Addr} {vs vs2 : List V} {od : Option Oc} {oc : Oc} (J : Jn F0 U p l vs od du G) (n : F0 l = none) (n2 : U l = none) (e : G du2 = some (.lst (ocL oc))) (ne : du2 ≠ l) (lp : l ≠ p) : Jn F0 U p l vs2 (some oc) du2 (upd G l (.lst vs2)) :=
  ⟨fun b o e => by rw [upd_ne (ne_of_none e n)]; exact J.f _ _ e, fun b o e => by rw [upd_ne (ne_of_none e n2)]; exact J.h _ _ e, by
    obtain ⟨x, y, e, r⟩ := J.r
    exact ⟨x, y, by rw [upd_ne lp.symm]; exact e, r⟩, upd_same, ne, by rw [upd_ne ne]; exact e⟩
theorem BadNm.zp {v : V} (h : BadNm p H v) : BadNm p (Zp p H) v := by
  rcases h with h | ⟨a, o, e, n, h, c⟩
  · exact .inl h
  · exact .inr ⟨a, o, e, n, Zp.mk h n (fun ps z => by cases c <;> cases z), c⟩
theorem BadNm.same {H' : Hp} {v : V} (h : BadNm p H v) (k : Same H H') : BadNm p H' v := h.ext (same_extN k)
end
end K18
set_option maxHeartbeats 4000000
namespace K18
open PySem PySem.Spec PyProof.Rows L2 GL StX
abbrev sRefusedR : Stmt := tp 46
section
variable {P : Program} {w : World} {K : PySem.W.Frag} {mg : Str → Option Value} {base : Heap}
def DefG (P : Program) (w : World) (K : PySem.W.Frag) (mg : Str → Option Value) (base : Heap) (x : Str) (k : Nat) (ps : List Str) (sp : Sp) : Prop := ∃ f fd, FnG P w K mg base CX0 k f fd ps sp ∧ mg x = some (.ref f) ∧ Binds K fd ps [] ∧ PySem.W.keepIn K (.ref f) = true
def spRefusedR (K : PySem.W.Frag) (T : List (Addr × Str)) : Sp := fun vs H Q _ => ∃ p : Addr, vs = [.ref p] ∧ Rng H p ∧ LamX.Tabs T H ∧ ∀ H', LamX.ExtN (off H p) H' → Rng H' p → LamX.Tabs T H' → Q (.bl true) H'
/-- what _law_refused calls -/
structure LR (P : Program) (w : World) (K : PySem.W.Frag) (mg : Str → Option Value) (base : Heap) (T : List (Addr × Str)) : Prop where
  dr : DefF P w K mg base "_law_draw" 1 ["_law_pot_here", "_law_many"] spDraw
  pk : DefF P w K mg base "_law_pick" 2 ["_law_pot_here", "_law_some"] (spChoice K)
  nm : DefF P w K mg base "_law_odd_name" 3 ["_law_pot_here"] (spOddName K)
  cl : DefF P w K mg base "_law_odd_claims" 4 ["_law_pot_here"] (spOddClaims K)
  sh : DefF P w K mg base "_law_odd_shifts" 8 ["_law_pot_here"] (spOddShifts K)
  md : DefG P w K mg base "_law_made" 9 ["_law_parts_now", "_law_due"] (spMadeR K T)
  ch : DefG P w K mg base "_law_changes" 10 ["_law_parts_now", "_law_due"] (spChangesR K T)
  M : MkM P w K mg base
  MM : PySem.W.kitOne K (.ref (aM K)) (.ref (aM K)) = some true
  rng : mg "range" = none
abbrev nRefusedR : List Str := ["_law_pot_here", "_law_odd", "_law_claims", "_law_shifts", "_law_many", "_law_k", "_law_kinds", "_law_parts_now", "_law_due"]
theorem scRefusedR : FnScope nRefusedR ["_law_pot_here"] (defScope sRefusedR) := ⟨rfl, rfl, rfl, by decide +kernel, rfl, by decide +kernel, by decide +kernel⟩
theorem ok_refusedR {T : List (Addr × Str)} {f : Addr} {fd : FuncData} (F : Fun K "_law_refused" "_law_refused" sRefusedR f fd) (X : LR P w K mg base T) : FnG P w K mg base CX0 11 f fd ["_law_pot_here"] (spRefusedR K T) := by
  obtain ⟨fD, fdD, GD, gD, bD, kD⟩ := X.dr
  obtain ⟨fC, fdC, GC_, gC, bC, kC⟩ := X.pk
  obtain ⟨fN, fdN, GN_, gN, bN, kN⟩ := X.nm
  obtain ⟨fL, fdL, GL_, gL, bL, kL⟩ := X.cl
  obtain ⟨fS, fdS, GS_, gS, bS, kS⟩ := X.sh
  obtain ⟨fE, fdE, GE_, gE, bE, kE⟩ := X.md
  obtain ⟨fH, fdH, GH_, gH, bH, kH⟩ := X.ch
  obtain ⟨fM, fdM, MM, GM, bM⟩ := X.M.mM
  have TM := X.M.T
  refine Fun.okG F scRefusedR (fun vs H Q E h => ?_) (fun cdv A outer s H vs Q E gd hr h => ?_)
  · obtain ⟨p, rfl, _⟩ := h
    rfl
  · obtain ⟨p, rfl, R, tabs, k⟩ := h
    refine ⟨_, pss_cons (ps_set (i := 1) scRefusedR.nd rfl (Or.inl rfl) (pe_lst (pa_cons (pe_call GN_ (hr.mono (by decide)) rfl gN kN bN .nil pass0 (pa_cons (pv 0) pa_nil)) (pa_cons (pe_call GN_ (hr.mono (by decide)) rfl gN kN bN .nil pass0 (pa_cons (pv 0) pa_nil)) pa_nil))))
      (pss_cons (ps_par (i := 2) (j := 3) (by rfl) scRefusedR.nd rfl rfl (by decide) rfl rfl (pa_cons (pe_call GL_ (hr.mono (by decide)) rfl gL kL bL .nil pass0 (pa_cons (pv 0) pa_nil)) (pa_cons (pe_call GS_ (hr.mono (by decide)) rfl gS kS bS .nil pass0 (pa_cons (pv 0) pa_nil)) pa_nil)) (by rfl))
      (pss_cons (ps_setLc (i := 4) (own := [("_law_k", 5)]) (g := gName 5) (tt := tYes) (te := tTup (tCons (tC (.str "x")) (tCons (tC (.str "from")) (tCons (tVar 5) tNil)))) (by rfl) scRefusedR.nd rfl rfl (sw_true rfl rfl rfl (by decide +kernel)) (pi_range1 (by rfl) X.rng (pa_cons (pe_op op_add pe_int (pe_call GD (hr.mono (by decide)) rfl gD kD bD .nil pass0 (pa_cons (pv 0) (pa_cons pe_int pa_nil)))) pa_nil))
        (blkOk_by (own := [("_law_k", 5)]) (N := nRefusedR) (sc := defScope sRefusedR) (by decide +kernel)) (fun _ _ _ _ _ => pg_name (i := 5) scRefusedR.nd rfl (Or.inl rfl)) (fun _ _ _ _ _ => pts_nil)
        (fun _ _ _ _ _ => by exact (pe_tup (pa_cons pe_str (pa_cons pe_str (pa_cons (pv 5) pa_nil))))))
      (pss_cons (ps_set (i := 6) scRefusedR.nd rfl (Or.inl rfl) (pe_call GC_ (hr.mono (by decide)) rfl gC kC bC .nil pass0 (pa_cons (pv 0) (pa_cons (pe_lst (pa_cons (pe_lst (pa_cons pe_int pa_nil)) (pa_cons (pe_lst (pa_cons pe_int pa_nil)) (pa_cons (pe_lst (pa_cons pe_int pa_nil)) (pa_cons (pe_lst (pa_cons pe_int pa_nil)) (pa_cons (pe_lst (pa_cons pe_int pa_nil)) (pa_cons (pe_lst (pa_cons pe_int (pa_cons pe_int pa_nil))) (pa_cons (pe_lst (pa_cons pe_int (pa_cons pe_int pa_nil))) (pa_cons (pe_lst (pa_cons pe_int (pa_cons pe_int pa_nil))) (pa_cons (pe_lst (pa_cons pe_int (pa_cons pe_int pa_nil))) (pa_cons (pe_lst (pa_cons pe_int (pa_cons pe_int pa_nil))) (pa_cons (pe_lst (pa_cons pe_int (pa_cons pe_int pa_nil))) (pa_cons (pe_lst (pa_cons pe_int (pa_cons pe_int pa_nil))) pa_nil))))))))))))) pa_nil))))
      (pss_cons (ps_set (i := 7) scRefusedR.nd rfl (Or.inl rfl) (pe_lst (pa_cons pe_str (pa_cons pe_str (pa_cons (pe_lst (pa_cons (pe_tup (pa_cons pe_str (pa_cons pe_str (pa_cons pe_int pa_nil)))) pa_nil)) (pa_cons (pe_disp (pps_cons pe_str (pe_make MM GM (hr.mono (by decide)) rfl TM.gM bM .nil pass0 (pa_cons pe_int (pa_cons pe_int (pa_cons pe_int (pa_cons pe_int pa_nil))))) pps_nil) (by rfl) (by rfl) (fun z => by cases z) (by decide)) pa_nil))))))
      (pss_cons (ps_set (i := 8) scRefusedR.nd rfl (Or.inl rfl) (pe_lst pa_nil))
      (pss_cut (ps_if (pt_cmpR op_in_seq pe_int (pv 6) (by with_unfolding_all rfl)) (pss_one (ps_asg (pe_tup (pa_cons (pv 4) (pa_cons (pe_lst (pa_cons pe_str (pa_cons pe_str (pa_cons pe_int (pa_cons pe_bl pa_nil))))) pa_nil))) (pg_tup (by rfl) (pgs_cons (pg_sub (pv 7) pe_int set_list) (pgs_cons (pg_name (i := 8) scRefusedR.nd rfl (.inl rfl)) pgs_nil))))) pss_nil)
      (pss_cut (ps_if (pt_cmpR op_in_seq pe_int (pv 6) (by with_unfolding_all rfl)) (pss_one (ps_asg (pe_tup (pa_cons (pe_ix (show IxR _ (rIxT K) from ix_tup) (pv 3) pe_int (fun _ _ => rfl)) (pa_cons (pe_lst (pa_cons pe_str (pa_cons pe_str (pa_cons (pe_ix (show IxR _ (rIxT K) from ix_tup) (pv 3) pe_int (fun _ _ => rfl)) (pa_cons pe_bl pa_nil))))) pa_nil))) (pg_tup (by rfl) (pgs_cons (pg_sub (pv 7) pe_int set_list) (pgs_cons (pg_name (i := 8) scRefusedR.nd rfl (.inl rfl)) pgs_nil))))) pss_nil)
      (pss_cut (ps_if (pt_cmpR op_in_seq pe_int (pv 6) (by with_unfolding_all rfl)) (pss_one (ps_asg (pe_tup (pa_cons (pe_ix (show IxR _ (rIxT K) from ix_tup) (pv 2) pe_int (fun _ _ => rfl)) (pa_cons (pe_lst (pa_cons pe_str (pa_cons pe_str (pa_cons (pe_ix (show IxR _ (rIxT K) from ix_tup) (pv 2) pe_int (fun _ _ => rfl)) (pa_cons pe_bl pa_nil))))) pa_nil))) (pg_tup (by rfl) (pgs_cons (pg_sub (pv 7) pe_int set_list) (pgs_cons (pg_name (i := 8) scRefusedR.nd rfl (.inl rfl)) pgs_nil))))) pss_nil)
      (pss_cut (ps_if (pt_cmpR op_in_seq pe_int (pv 6) (by with_unfolding_all rfl)) (pss_one (ps_asg (pe_tup (pa_cons (pe_ix (show IxR _ (rIxL K) from ix_list) (pv 1) pe_int (fun _ _ => rfl)) (pa_cons (pe_lst (pa_cons pe_str (pa_cons (pe_ix (show IxR _ (rIxL K) from ix_list) (pv 1) pe_int (fun _ _ => rfl)) (pa_cons pe_bl (pa_cons pe_bl pa_nil))))) pa_nil))) (pg_tup (by rfl) (pgs_cons (pg_sub (pv 7) pe_int set_list) (pgs_cons (pg_name (i := 8) scRefusedR.nd rfl (.inl rfl)) pgs_nil))))) pss_nil)
      (pss_cut (ps_if (pt_cmpR op_in_seq pe_int (pv 6) (by with_unfolding_all rfl)) (pss_one (ps_asg (pe_tup (pa_cons (pe_ix (show IxR _ (rIxL K) from ix_list) (pv 1) pe_int (fun _ _ => rfl)) (pa_cons (pe_lst (pa_cons pe_str (pa_cons (pe_ix (show IxR _ (rIxL K) from ix_list) (pv 1) pe_int (fun _ _ => rfl)) (pa_cons pe_bl (pa_cons pe_bl pa_nil))))) pa_nil))) (pg_tup (by rfl) (pgs_cons (pg_sub (pv 7) pe_int set_list) (pgs_cons (pg_name (i := 8) scRefusedR.nd rfl (.inl rfl)) pgs_nil))))) pss_nil)
      (pss_one (ps_ret (pe_and (pe_callG GE_ gd (hr.mono (by decide)) rfl gE kE bE .nil pass0 (pa_cons (pv 7) (pa_cons (pv 8) pa_nil)))
        (pe_one (pe_callG GH_ gd (hr.mono (by decide)) rfl gH kH bH .nil pass0 (pa_cons (pv 7) (pa_cons (pv 8) pa_nil))))))))))))))))), ?_⟩
    have A0 := At.nil R
    refine ⟨_, rfl, p, rfl, R, fun v0 H1 s1 R1 b0 => ?_⟩
    refine ⟨_, rfl, p, rfl, R1, fun v1 H2 s2 R2 b1 => ?_⟩
    refine ⟨(by show 2 ≤ sizeLine; decide), fun lo no => ?_⟩
    have A2 := (A0.offs s1 R1).offs s2 R2
    have A3 := A2.new (o := .lst [v0, v1]) no (fun _ z => by cases z)
    have s3 := same_new (o := .lst [v0, v1]) no
    replace b0 := (b0.zp.same (Zp.offs s2)).same (Zp.same s3)
    replace b1 := b1.zp.same (Zp.same s3)
    generalize upd H2 lo (.lst [v0, v1]) = H3 at *
    refine ⟨_, rfl, p, rfl, A3.r, fun c1 wh due1 H4 s4 R4 n4 e4 wb => ?_⟩
    have A4 := (A3.offs s4 R4).add e4 n4 (fun _ z => by cases z)
    replace b0 := b0.same (Zp.offs s4)
    replace b1 := b1.same (Zp.offs s4)
    refine ⟨_, rfl, p, rfl, A4.r, fun c2 mv due2 H5 s5 R5 n5 e5 mb => ?_⟩
    have A5 := (A4.offs s5 R5).add e5 n5 (fun _ z => by cases z)
    replace b0 := b0.same (Zp.offs s5)
    replace b1 := b1.same (Zp.offs s5)
    replace wb := wb.same (Zp.offs s5)
    clear s1 s2 s3 s4 s5 A0 A2 A3 A4 n4 n5 e4 e5 no
    refine ⟨_, _, rfl, ?_⟩
    refine ⟨_, rfl, p, 3, rfl, A5.r, by decide, by decide, fun d H6 d0 d1 kp6 R6 => ?_⟩
    have A6 := A5.kp kp6 R6
    replace b0 := b0.same (Zp.kp kp6)
    replace b1 := b1.same (Zp.kp kp6)
    replace wb := wb.same (Zp.kp kp6)
    replace mb := mb.same (Zp.kp kp6)
    clear A5 kp6
    obtain ⟨j, rfl⟩ : ∃ j : Nat, d = (j : Int) := ⟨d.toNat, by omega⟩
    have hj : j < 3 := by omega
    refine ⟨_, _, rfl, rfl, ?_⟩
    refine ⟨((9 + j : Nat) : Int), (by simp), by omega, by omega, fun D hD => ?_⟩
    have Dp := A6.r.ne_new' hD
    have uD := same_new (o := .lst []) hD
    refine lc_range (lo := 0) (n := 9 + j) (fun i G => Same H6 G ∧ ∃ acc, G D = some (.lst acc) ∧ acc.length = i ∧ ∀ v ∈ acc, GoodC (Zp p G) v) ⟨uD, [], upd_same, rfl, fun v hv => by cases hv⟩ ?_ ?_
    · rintro i G hi ⟨sG, acc, hacc, la, all⟩
      refine ⟨rfl, ?_⟩
      refine ⟨_, rfl, (by show 3 ≤ sizeLine; decide), fun t nt => ?_⟩
      have ut := same_new (o := .tup [V.str "x", .str "from", .int (0 + (i : Int))]) nt
      have ht : upd G t (.tup [V.str "x", .str "from", .int (0 + (i : Int))]) t = some (.tup [V.str "x", .str "from", .int (0 + (i : Int))]) := upd_same
      have tp_ := (A6.r.same' sG).ne_new' nt
      generalize upd G t (.tup [V.str "x", .str "from", .int (0 + (i : Int))]) = G2 at *
      have hacc2 := ut _ _ hacc
      refine ⟨acc, hacc2, by rw [la, sizeLine_eq]; omega, fun b o e => ?_, acc ++ [.ref t], upd_same, by rw [List.length_append, la]; rfl, fun v hv => ?_⟩
      · rw [upd_ne (ne_of_none e hD)]
        exact ut _ _ (sG _ _ e)
      · have keep : ∀ {u : V}, GoodC (Zp p G2) u → GoodC (Zp p (upd G2 D (.lst (acc ++ [.ref t])))) u := fun {u} ⟨c, k, e, h⟩ =>
          ⟨c, k, e, Zp.mk (by rw [upd_ne (fun z => by subst z; exact absurd ((Zp.sm h).2.1.symm.trans hacc2) (fun z => by cases z))]; exact (Zp.sm h).2.1) (Zp.sm h).1 (fun _ z => by cases z)⟩
        rcases List.mem_append.mp hv with h | h
        · exact keep ((all v h).same (Zp.same ut))
        · rw [List.mem_singleton.mp h]
          exact keep ⟨t, _, rfl, Zp.mk ht tp_ (fun _ z => by cases z)⟩
    rintro H7 ⟨s7, acc, hacc, la, all⟩
    replace la : acc.length = 9 + j := la
    have A7 := (A6.same s7).add hacc Dp (fun _ z => by cases z)
    replace b0 := b0.same (Zp.same s7)
    replace b1 := b1.same (Zp.same s7)
    replace wb := wb.same (Zp.same s7)
    replace mb := mb.same (Zp.same s7)
    clear s7 hacc uD hD A6 d0 d1
    have Ar := A7.restart
    refine ⟨_, rfl, ?_⟩
    refine ⟨(by show 1 ≤ sizeLine; decide), fun l201 n201 => ?_⟩
    have A201 := Ar.new (o := .lst [V.int 0]) n201 (fun _ z => by cases z)
    generalize upd H7 l201 (.lst [V.int 0]) = H201 at A201 ⊢
    refine ⟨(by show 1 ≤ sizeLine; decide), fun l202 n202 => ?_⟩
    have A202 := A201.new (o := .lst [V.int 1]) n202 (fun _ z => by cases z)
    generalize upd H201 l202 (.lst [V.int 1]) = H202 at A202 ⊢
    refine ⟨(by show 1 ≤ sizeLine; decide), fun l203 n203 => ?_⟩
    have A203 := A202.new (o := .lst [V.int 2]) n203 (fun _ z => by cases z)
    generalize upd H202 l203 (.lst [V.int 2]) = H203 at A203 ⊢
    refine ⟨(by show 1 ≤ sizeLine; decide), fun l204 n204 => ?_⟩
    have A204 := A203.new (o := .lst [V.int 3]) n204 (fun _ z => by cases z)
    generalize upd H203 l204 (.lst [V.int 3]) = H204 at A204 ⊢
    refine ⟨(by show 1 ≤ sizeLine; decide), fun l205 n205 => ?_⟩
    have A205 := A204.new (o := .lst [V.int 4]) n205 (fun _ z => by cases z)
    generalize upd H204 l205 (.lst [V.int 4]) = H205 at A205 ⊢
    refine ⟨(by show 2 ≤ sizeLine; decide), fun l206 n206 => ?_⟩
    have A206 := A205.new (o := .lst [V.int 0, .int 1]) n206 (fun _ z => by cases z)
    generalize upd H205 l206 (.lst [V.int 0, .int 1]) = H206 at A206 ⊢
    refine ⟨(by show 2 ≤ sizeLine; decide), fun l207 n207 => ?_⟩
    have A207 := A206.new (o := .lst [V.int 1, .int 2]) n207 (fun _ z => by cases z)
    generalize upd H206 l207 (.lst [V.int 1, .int 2]) = H207 at A207 ⊢
    refine ⟨(by show 2 ≤ sizeLine; decide), fun l208 n208 => ?_⟩
    have A208 := A207.new (o := .lst [V.int 2, .int 3]) n208 (fun _ z => by cases z)
    generalize upd H207 l208 (.lst [V.int 2, .int 3]) = H208 at A208 ⊢
    refine ⟨(by show 2 ≤ sizeLine; decide), fun l209 n209 => ?_⟩
    have A209 := A208.new (o := .lst [V.int 3, .int 4]) n209 (fun _ z => by cases z)
    generalize upd H208 l209 (.lst [V.int 3, .int 4]) = H209 at A209 ⊢
    refine ⟨(by show 2 ≤ sizeLine; decide), fun l210 n210 => ?_⟩
    have A210 := A209.new (o := .lst [V.int 0, .int 4]) n210 (fun _ z => by cases z)
    generalize upd H209 l210 (.lst [V.int 0, .int 4]) = H210 at A210 ⊢
    refine ⟨(by show 2 ≤ sizeLine; decide), fun l211 n211 => ?_⟩
    have A211 := A210.new (o := .lst [V.int 1, .int 3]) n211 (fun _ z => by cases z)
    generalize upd H210 l211 (.lst [V.int 1, .int 3]) = H211 at A211 ⊢
    refine ⟨(by show 2 ≤ sizeLine; decide), fun l212 n212 => ?_⟩
    have A212 := A211.new (o := .lst [V.int 0, .int 3]) n212 (fun _ z => by cases z)
    generalize upd H211 l212 (.lst [V.int 0, .int 3]) = H212 at A212 ⊢
    refine ⟨(by show 12 ≤ sizeLine; decide), fun l213 n213 => ?_⟩
    have A213 := A212.new (o := .lst [V.ref l201, .ref l202, .ref l203, .ref l204, .ref l205, .ref l206, .ref l207, .ref l208, .ref l209, .ref l210, .ref l211, .ref l212]) n213 (fun _ z => by cases z)
    generalize upd H212 l213 (.lst [V.ref l201, .ref l202, .ref l203, .ref l204, .ref l205, .ref l206, .ref l207, .ref l208, .ref l209, .ref l210, .ref l211, .ref l212]) = H213 at A213 ⊢
    refine ⟨p, l213, _, rfl, A213.r, (A213.at (i := 0) rfl), (Zp.sm (A213.get (i := 0) rfl)).1, by show 0 < 12; decide, by show 12 < 1000; decide, fun v H8 mk kp8 R8 => ?_⟩
    have A8 := A213.kp kp8 R8
    obtain ⟨ka, ks, rfl, eka, flk, one⟩ : ∃ ka ks, v = .ref ka ∧ Zp p H8 ka = some (.lst ks) ∧ ks.all flatV = true ∧ (inV (.int 4) ks || (inV (.int 3) ks || (inV (.int 2) ks || (inV (.int 1) ks || inV (.int 0) ks)))) = true := by
      simp only [List.mem_cons, List.not_mem_nil, or_false] at mk
      rcases mk with rfl | rfl | rfl | rfl | rfl | rfl | rfl | rfl | rfl | rfl | rfl | rfl
      · exact ⟨_, _, rfl, (A8.get (i := 12) rfl), rfl, rfl⟩
      · exact ⟨_, _, rfl, (A8.get (i := 11) rfl), rfl, rfl⟩
      · exact ⟨_, _, rfl, (A8.get (i := 10) rfl), rfl, rfl⟩
      · exact ⟨_, _, rfl, (A8.get (i := 9) rfl), rfl, rfl⟩
      · exact ⟨_, _, rfl, (A8.get (i := 8) rfl), rfl, rfl⟩
      · exact ⟨_, _, rfl, (A8.get (i := 7) rfl), rfl, rfl⟩
      · exact ⟨_, _, rfl, (A8.get (i := 6) rfl), rfl, rfl⟩
      · exact ⟨_, _, rfl, (A8.get (i := 5) rfl), rfl, rfl⟩
      · exact ⟨_, _, rfl, (A8.get (i := 4) rfl), rfl, rfl⟩
      · exact ⟨_, _, rfl, (A8.get (i := 3) rfl), rfl, rfl⟩
      · exact ⟨_, _, rfl, (A8.get (i := 2) rfl), rfl, rfl⟩
      · exact ⟨_, _, rfl, (A8.get (i := 1) rfl), rfl, rfl⟩
    replace b0 := b0.same (Zp.offs A8.s)
    replace b1 := b1.same (Zp.offs A8.s)
    replace wb := wb.same (Zp.offs A8.s)
    replace mb := mb.same (Zp.offs A8.s)
    replace all := fun v hv => (all v hv).same (Zp.offs A8.s)
    have A9 := (A7.trans (A8.drop 13)).add (Zp.sm eka).2.1 (Zp.sm eka).1 (fun _ z => by cases z)
    replace A9 : At p H H8 [(ka, .lst ks), (D, .lst acc), (c2, .tup [mv, due2]), (c1, .tup [wh, due1]), (lo, .lst [v0, v1])] := A9
    clear A201 A202 A203 A204 A205 A206 A207 A208 A209 A210 A211 A212 A213 A8 A7 Ar eka mk kp8
    refine ⟨(by show 3 ≤ sizeLine; decide), fun t1 nt1 => ?_⟩
    have B1 := A9.new (o := .tup [V.str "x", .str "from", .int 1]) nt1 (fun _ z => by cases z)
    have s9 := same_new (o := .tup [V.str "x", .str "from", .int 1]) nt1
    generalize upd H8 t1 (.tup [V.str "x", .str "from", .int 1]) = H9 at B1 s9 ⊢
    refine ⟨(by show 1 ≤ sizeLine; decide), fun l1 nl1 => ?_⟩
    have B2 := B1.new (o := .lst [V.ref t1]) nl1 (fun _ z => by cases z)
    replace s9 := s9.trans (same_new (o := .lst [V.ref t1]) nl1)
    generalize upd H9 l1 (.lst [V.ref t1]) = H10 at B2 s9 ⊢
    intro dd ndd
    intro g dg hg hdg neg
    refine made_mov hg hdg (by decide) (szI (by show 0 < 2 ^ 100000; exact Nat.two_pow_pos _) (by decide)) (szI (by show 1 < 2 ^ 100000; exact Nat.one_lt_two_pow (by decide)) (by decide)) (by decide +kernel) fun HG sG mg_ => ⟨rfl, ?_⟩
    obtain ⟨_, _, gdx, ga, gb, gc, eg, _⟩ := mg_
    refine ⟨sG _ _ upd_same, [((Sum.inr ("x" : Str) : Key), V.ref g)], rfl, by show 1 ≤ 15; decide, ?_⟩
    rw [show mergeK [] [((Sum.inr ("x" : Str) : Key), V.ref g)] = [((Sum.inr ("x" : Str) : Key), V.ref g)] from by simp [mergeK, putK]]
    have gne := upd_new_ne hg
    have gnp : g ≠ p := B2.r.ne_new' (by rw [upd_ne gne] at hg; exact hg)
    have B3 := (B2.put (o := .dK [((Sum.inr ("x" : Str) : Key), V.ref g)]) ndd sG (fun _ z => by cases z)).add (a := g) ((upd_ne gne).trans eg) gnp (fun _ z => by cases z)
    replace s9 : Same H8 (upd HG dd (.dK [((Sum.inr ("x" : Str) : Key), V.ref g)])) := fun b o e => by
      have z := s9 _ _ e
      rw [upd_ne (ne_of_none z ndd)]
      exact sG _ _ (by rw [upd_ne (ne_of_none z ndd)]; exact z)
    generalize upd HG dd (.dK [((Sum.inr ("x" : Str) : Key), V.ref g)]) = H11 at B3 s9 ⊢
    clear B2 B1 sG eg hg hdg
    replace b0 := b0.same (Zp.same s9)
    replace b1 := b1.same (Zp.same s9)
    replace wb := wb.same (Zp.same s9)
    replace mb := mb.same (Zp.same s9)
    replace all := fun v hv => (all v hv).same (Zp.same s9)
    have wo : WhenOk K (Zp p H11) (.ref l1) [.ref t1] := ⟨l1, _, rfl, .base (.lst (B3.get (i := 2) rfl)), kit_list, .inl (SqL.of (B3.get (i := 2) rfl)), by show 1 ≤ 1000; decide, fun v hv => by
      rw [List.mem_singleton.mp hv]
      exact GoodC.cond ⟨t1, 1, rfl, B3.get (i := 3) rfl⟩⟩
    have wm : WhenOk K (Zp p H11) (.ref D) acc := ⟨D, _, rfl, .base (.lst (B3.get (i := 5) rfl)), kit_list, .inl (SqL.of (B3.get (i := 5) rfl)), by omega, fun v hv => (all v hv).cond⟩
    have mo : MovesOk K (Zp p H11) (.ref dd) := ⟨dd, _, [("x" : Str)], rfl, B3.get (i := 1) rfl, by show 1 ≤ 1000; decide, fun kv hk => by
      simp only [List.mem_cons, List.not_mem_nil, or_false] at hk
      subst hk
      exact keyOk_of (by decide +kernel), by simp only [List.all_cons, List.all_nil]; decide +kernel, rfl, by show 1 < 64; decide, fun u hu => by
      rw [List.mem_singleton.mp hu]
      exact ⟨.ref g, by simp [valV], _, .base (.ins (B3.get (i := 0) rfl) TM.cl TM.kc TM.sp TM.tk TM.ob), X.MM⟩⟩
    refine ⟨(by show 4 ≤ sizeLine; decide), fun l nl => ?_⟩
    have lp := B3.r.ne_new' nl
    have B4 := B3.same (same_new (o := .lst [V.str "calm", .str "a.b", .ref l1, .ref dd]) nl)
    have pl : upd H11 l (.lst [V.str "calm", .str "a.b", .ref l1, .ref dd]) l = some (.lst [V.str "calm", .str "a.b", .ref l1, .ref dd]) := upd_same
    have nF : Zp p H11 l = none := none_of (Zp.to p H11) nl
    have nU : off H p l = none := none_of B3.s nl
    have f0 : Same (Zp p H11) (upd H11 l (.lst [V.str "calm", .str "a.b", .ref l1, .ref dd])) := (Zp.to p H11).trans (same_new nl)
    generalize upd H11 l (.lst [V.str "calm", .str "a.b", .ref l1, .ref dd]) = H12 at B4 pl f0 ⊢
    refine ⟨(by show 0 ≤ sizeLine; decide), fun du ndu => ?_⟩
    have dul : du ≠ l := (ne_of_none pl ndu).symm
    have J0 : Jn (Zp p H11) (off H p) p l [V.str "calm", .str "a.b", .ref l1, .ref dd] none du (upd H12 du (.lst [])) :=
      ⟨f0.trans (same_new ndu), B4.s.trans (same_new ndu), B4.r.same' (same_new ndu), (same_new ndu) _ _ pl, dul, upd_same⟩
    generalize upd H12 du (.lst []) = H13 at J0 ⊢
    have gka := B3.get (i := 4) rfl
    have gc2 := B3.get (i := 6) rfl
    have gc1 := B3.get (i := 7) rfl
    have glo := B3.get (i := 8) rfl
    have tF : LamX.Tabs T (off H p) := by
      obtain ⟨x, y, e, _⟩ := R
      exact Tabs.offP tabs e
    obtain ⟨F0, eF⟩ : ∃ F0, F0 = Zp p H11 := ⟨_, rfl⟩
    rw [← eF] at b0 b1 wb mb wo wm mo nF J0 gka gc2 gc1 glo
    have xF : ∀ {G G' : Hp}, Same F0 G → LamX.ExtN G G' → Same F0 G' := fun {G G'} s x b o e => x b o (s _ _ e) (by rw [eF] at e; exact (Zp.sm e).2.2)
    clear eF f0 B3 B4 pl all s9 nt1 nl1 ndd nl ndu
    have J := J0
    clear J0
    generalize H13 = G at J ⊢
    refine ⟨fun z G => ∃ du w_ xs od, z = [some (.ref p), some (.ref lo), some (.ref c1), some (.ref c2), some (.ref D), none, some (.ref ka), some (.ref l), some (.ref du)] ∧ Jn F0 (off H p) p l [V.str "calm", .str "a.b", w_, .ref dd] od du G ∧ WhenOk K F0 w_ xs ∧ (∀ oc, od = some oc → ocSelf oc = true ∧ RunsTo K oc (MakeR K (.str "calm") (.str "a.b") w_ (.ref dd)) F0) ∧ (od = none → inV (.int 4) ks = false), ?_, ?_⟩
    · refine ⟨_, rfl, ka, _, rfl, .inl (SqL.of (J.f _ _ gka)), rfl, flk, _, rfl, ?_⟩
      cases e4 : inV (.int 4) ks with
      | true =>
        refine iteT ⟨_, rfl, (by show 4 ≤ sizeLine; decide), fun q nq => ?_⟩
        have ql : q ≠ l := (ne_of_none J.pl nq).symm
        have J1 := J.same (same_new (o := .lst [V.str "many", .str "conditions", .int 8, .bl true]) nq)
        have eq : upd G q (.lst [V.str "many", .str "conditions", .int 8, .bl true]) q = some (.lst [V.str "many", .str "conditions", .int 8, .bl true]) := upd_same
        generalize upd G q (.lst [V.str "many", .str "conditions", .int 8, .bl true]) = G1 at J1 eq ⊢
        refine ⟨(by show 2 ≤ sizeLine; decide), fun t nt => ?_⟩
        have u := same_new (o := .tup [V.ref D, .ref q]) nt
        have J2 := J1.same u
        have eq2 := u _ _ eq
        have et : upd G1 t (.tup [V.ref D, .ref q]) t = some (.tup [V.ref D, .ref q]) := upd_same
        generalize upd G1 t (.tup [V.ref D, .ref q]) = G2 at J2 eq2 et ⊢
        refine ⟨t, _, rfl, SqT.of et, rfl, _, _, rfl, _, rfl, l, _, _, 2, rfl, rfl, J2.pl, rfl, _, _, rfl, rfl, ?_⟩
        exact ⟨q, .ref D, acc, some .many, rfl, J2.step (oc := _) nF nU eq2 ql lp, wm, fun oc e => by cases e; exact ⟨rfl, runs_many (NameS.of (by decide +kernel)) (NameS.of (by decide +kernel)) wm (by omega) mo⟩, fun z => by cases z⟩
      | false => exact iteF ⟨du, .ref l1, _, none, rfl, J, wo, (fun oc e => by cases e), fun _ => rfl⟩
    · clear J
      rintro z G ⟨du, w_, xs, od, rfl, J, wx, ok, no⟩
      refine ⟨fun z G => ∃ du w_ m_ od, z = [some (.ref p), some (.ref lo), some (.ref c1), some (.ref c2), some (.ref D), none, some (.ref ka), some (.ref l), some (.ref du)] ∧ Jn F0 (off H p) p l [V.str "calm", .str "a.b", w_, m_] od du G ∧ (∀ oc, od = some oc → ocSelf oc = true ∧ RunsTo K oc (MakeR K (.str "calm") (.str "a.b") w_ m_) F0) ∧ (od = none → inV (.int 4) ks = false ∧ inV (.int 3) ks = false), ?_, ?_⟩
      · refine ⟨_, rfl, ka, _, rfl, .inl (SqL.of (J.f _ _ gka)), rfl, flk, _, rfl, ?_⟩
        cases e3 : inV (.int 3) ks with
        | true =>
          refine iteT ⟨_, rfl, c2, _, _, _, rfl, rfl, SqT.of (J.f _ _ gc2), rfl, _, rfl, c2, _, _, _, rfl, rfl, SqT.of (J.f _ _ gc2), rfl, (by show 4 ≤ sizeLine; decide), fun q nq => ?_⟩
          have ql : q ≠ l := (ne_of_none J.pl nq).symm
          have J1 := J.same (same_new (o := .lst [V.str "rule", .str "moves", due2, .bl true]) nq)
          have eq : upd G q (.lst [V.str "rule", .str "moves", due2, .bl true]) q = some (.lst [V.str "rule", .str "moves", due2, .bl true]) := upd_same
          generalize upd G q (.lst [V.str "rule", .str "moves", due2, .bl true]) = G1 at J1 eq ⊢
          refine ⟨(by show 2 ≤ sizeLine; decide), fun t nt => ?_⟩
          have u := same_new (o := .tup [mv, .ref q]) nt
          have J2 := J1.same u
          have eq2 := u _ _ eq
          have et : upd G1 t (.tup [mv, .ref q]) t = some (.tup [mv, .ref q]) := upd_same
          generalize upd G1 t (.tup [mv, .ref q]) = G2 at J2 eq2 et ⊢
          refine ⟨t, _, rfl, SqT.of et, rfl, _, _, rfl, _, rfl, l, _, _, 3, rfl, rfl, J2.pl, rfl, _, _, rfl, rfl, ?_⟩
          exact ⟨q, w_, mv, some (.rule "moves" due2), rfl, J2.step (oc := _) nF nU eq2 ql lp, fun oc e => by cases e; exact ⟨mb.self, runs_moves (NameS.of (by decide +kernel)) (NameS.of (by decide +kernel)) wx mb⟩, fun z => by cases z⟩
        | false => exact iteF ⟨du, w_, .ref dd, od, rfl, J, ok, fun z => ⟨no z, rfl⟩⟩
      · clear J
        rintro z G ⟨du, w_, m_, od, rfl, J, ok, no⟩
        refine ⟨fun z G => ∃ du w_ m_ od, z = [some (.ref p), some (.ref lo), some (.ref c1), some (.ref c2), some (.ref D), none, some (.ref ka), some (.ref l), some (.ref du)] ∧ Jn F0 (off H p) p l [V.str "calm", .str "a.b", w_, m_] od du G ∧ (∀ oc, od = some oc → ocSelf oc = true ∧ RunsTo K oc (MakeR K (.str "calm") (.str "a.b") w_ m_) F0) ∧ (od = none → inV (.int 4) ks = false ∧ inV (.int 3) ks = false ∧ inV (.int 2) ks = false), ?_, ?_⟩
        · refine ⟨_, rfl, ka, _, rfl, .inl (SqL.of (J.f _ _ gka)), rfl, flk, _, rfl, ?_⟩
          cases e2 : inV (.int 2) ks with
          | true =>
            refine iteT ⟨_, rfl, c1, _, _, _, rfl, rfl, SqT.of (J.f _ _ gc1), rfl, _, rfl, c1, _, _, _, rfl, rfl, SqT.of (J.f _ _ gc1), rfl, (by show 4 ≤ sizeLine; decide), fun q nq => ?_⟩
            have ql : q ≠ l := (ne_of_none J.pl nq).symm
            have J1 := J.same (same_new (o := .lst [V.str "rule", .str "when", due1, .bl true]) nq)
            have eq : upd G q (.lst [V.str "rule", .str "when", due1, .bl true]) q = some (.lst [V.str "rule", .str "when", due1, .bl true]) := upd_same
            generalize upd G q (.lst [V.str "rule", .str "when", due1, .bl true]) = G1 at J1 eq ⊢
            refine ⟨(by show 2 ≤ sizeLine; decide), fun t nt => ?_⟩
            have u := same_new (o := .tup [wh, .ref q]) nt
            have J2 := J1.same u
            have eq2 := u _ _ eq
            have et : upd G1 t (.tup [wh, .ref q]) t = some (.tup [wh, .ref q]) := upd_same
            generalize upd G1 t (.tup [wh, .ref q]) = G2 at J2 eq2 et ⊢
            refine ⟨t, _, rfl, SqT.of et, rfl, _, _, rfl, _, rfl, l, _, _, 2, rfl, rfl, J2.pl, rfl, _, _, rfl, rfl, ?_⟩
            exact ⟨q, wh, m_, some (.rule "when" due1), rfl, J2.step (oc := _) nF nU eq2 ql lp, fun oc e => by cases e; exact ⟨wb.self, runs_when (NameS.of (by decide +kernel)) (NameS.of (by decide +kernel)) wb⟩, fun z => by cases z⟩
          | false => exact iteF ⟨du, w_, m_, od, rfl, J, ok, fun z => ⟨(no z).1, (no z).2, rfl⟩⟩
        · clear J
          rintro z G ⟨du, w_, m_, od, rfl, J, ok, no⟩
          refine ⟨fun z G => ∃ du a_ w_ m_ od, z = [some (.ref p), some (.ref lo), some (.ref c1), some (.ref c2), some (.ref D), none, some (.ref ka), some (.ref l), some (.ref du)] ∧ Jn F0 (off H p) p l [V.str "calm", a_, w_, m_] od du G ∧ (∀ oc, od = some oc → ocSelf oc = true ∧ RunsTo K oc (MakeR K (.str "calm") a_ w_ m_) F0) ∧ (od = none → inV (.int 4) ks = false ∧ inV (.int 3) ks = false ∧ inV (.int 2) ks = false ∧ inV (.int 1) ks = false), ?_, ?_⟩
          · refine ⟨_, rfl, ka, _, rfl, .inl (SqL.of (J.f _ _ gka)), rfl, flk, _, rfl, ?_⟩
            cases e1 : inV (.int 1) ks with
            | true =>
              refine iteT ⟨_, rfl, lo, _, _, _, rfl, rfl, SqL.of (J.f _ _ glo), rfl, _, rfl, lo, _, _, _, rfl, rfl, SqL.of (J.f _ _ glo), rfl, (by show 4 ≤ sizeLine; decide), fun q nq => ?_⟩
              have ql : q ≠ l := (ne_of_none J.pl nq).symm
              have J1 := J.same (same_new (o := .lst [V.str "name", v1, .bl true, .bl true]) nq)
              have eq : upd G q (.lst [V.str "name", v1, .bl true, .bl true]) q = some (.lst [V.str "name", v1, .bl true, .bl true]) := upd_same
              generalize upd G q (.lst [V.str "name", v1, .bl true, .bl true]) = G1 at J1 eq ⊢
              refine ⟨(by show 2 ≤ sizeLine; decide), fun t nt => ?_⟩
              have u := same_new (o := .tup [v1, .ref q]) nt
              have J2 := J1.same u
              have eq2 := u _ _ eq
              have et : upd G1 t (.tup [v1, .ref q]) t = some (.tup [v1, .ref q]) := upd_same
              generalize upd G1 t (.tup [v1, .ref q]) = G2 at J2 eq2 et ⊢
              refine ⟨t, _, rfl, SqT.of et, rfl, _, _, rfl, _, rfl, l, _, _, 1, rfl, rfl, J2.pl, rfl, _, _, rfl, rfl, ?_⟩
              exact ⟨q, v1, w_, m_, some (.name v1), rfl, J2.step (oc := _) nF nU eq2 ql lp, fun oc e => by cases e; exact ⟨b1.self, runs_ans (NameS.of (by decide +kernel)) b1.nm⟩, fun z => by cases z⟩
            | false => exact iteF ⟨du, .str "a.b", w_, m_, od, rfl, J, ok, fun z => ⟨(no z).1, (no z).2.1, (no z).2.2, rfl⟩⟩
          · clear J
            rintro z G ⟨du, a_, w_, m_, od, rfl, J, ok, no⟩
            refine ⟨fun z G => ∃ du g_ a_ w_ m_ od, z = [some (.ref p), some (.ref lo), some (.ref c1), some (.ref c2), some (.ref D), none, some (.ref ka), some (.ref l), some (.ref du)] ∧ Jn F0 (off H p) p l [g_, a_, w_, m_] od du G ∧ (∀ oc, od = some oc → ocSelf oc = true ∧ RunsTo K oc (MakeR K g_ a_ w_ m_) F0) ∧ (od = none → inV (.int 4) ks = false ∧ inV (.int 3) ks = false ∧ inV (.int 2) ks = false ∧ inV (.int 1) ks = false ∧ inV (.int 0) ks = false), ?_, ?_⟩
            · refine ⟨_, rfl, ka, _, rfl, .inl (SqL.of (J.f _ _ gka)), rfl, flk, _, rfl, ?_⟩
              cases e0 : inV (.int 0) ks with
              | true =>
                refine iteT ⟨_, rfl, lo, _, _, _, rfl, rfl, SqL.of (J.f _ _ glo), rfl, _, rfl, lo, _, _, _, rfl, rfl, SqL.of (J.f _ _ glo), rfl, (by show 4 ≤ sizeLine; decide), fun q nq => ?_⟩
                have ql : q ≠ l := (ne_of_none J.pl nq).symm
                have J1 := J.same (same_new (o := .lst [V.str "name", v0, .bl true, .bl true]) nq)
                have eq : upd G q (.lst [V.str "name", v0, .bl true, .bl true]) q = some (.lst [V.str "name", v0, .bl true, .bl true]) := upd_same
                generalize upd G q (.lst [V.str "name", v0, .bl true, .bl true]) = G1 at J1 eq ⊢
                refine ⟨(by show 2 ≤ sizeLine; decide), fun t nt => ?_⟩
                have u := same_new (o := .tup [v0, .ref q]) nt
                have J2 := J1.same u
                have eq2 := u _ _ eq
                have et : upd G1 t (.tup [v0, .ref q]) t = some (.tup [v0, .ref q]) := upd_same
                generalize upd G1 t (.tup [v0, .ref q]) = G2 at J2 eq2 et ⊢
                refine ⟨t, _, rfl, SqT.of et, rfl, _, _, rfl, _, rfl, l, _, _, 0, rfl, rfl, J2.pl, rfl, _, _, rfl, rfl, ?_⟩
                exact ⟨q, v0, a_, w_, m_, some (.name v0), rfl, J2.step (oc := _) nF nU eq2 ql lp, fun oc e => by cases e; exact ⟨b0.self, runs_goal b0.nm⟩, fun z => by cases z⟩
              | false => exact iteF ⟨du, .str "calm", a_, w_, m_, od, rfl, J, ok, fun z => ⟨(no z).1, (no z).2.1, (no z).2.2.1, (no z).2.2.2, rfl⟩⟩
            · clear J
              rintro z G ⟨du, g_, a_, w_, m_, od, rfl, J, ok, no⟩
              cases od with
              | none =>
                obtain ⟨z4, z3, z2, z1, z0⟩ := no rfl
                rw [z4, z3, z2, z1, z0] at one
                cases one
              | some oc =>
                obtain ⟨self, run⟩ := ok oc rfl
                have tG := Tabs.same tF J.h
                refine ⟨_, rfl, _, rfl, l, du, g_, a_, w_, m_, oc, rfl, J.pl, J.d, self, tG, fun G3 x => run.same (xF J.f x), fun G1 x1 tb1 => ?_⟩
                refine ⟨_, rfl, iteT ?_⟩
                refine ⟨_, rfl, _, rfl, l, du, g_, a_, w_, m_, oc, rfl, x1 _ _ J.pl (fun _ z => by cases z), x1 _ _ J.d (fun _ z => by cases z), self, tb1, fun G3 x => run.same (xF J.f (x1.trans x)), fun G2 x2 tb2 => ?_⟩
                exact k G2 ((same_extN J.h).trans (x1.trans x2)) (J.r.ext (x1.trans x2)) tb2
end
end K18
set_option maxHeartbeats 4000000
namespace K18
open PySem PySem.Spec PyProof.Rows L2 GL StX
abbrev sTaken : Stmt := tp 49
abbrev lamTaken : Str := "_law_taken_right.<locals>.<lambda>"
section
variable {K : PySem.W.Frag}
/-- a rule with moves is made -/
theorem rule_okM {H : Hp} {x dx aw d : Addr} {g a : Str} {xs : List V} {t : Value} {rows : List (Str × Str × Rat)} {kvs : List (Key × V)} {ks : List Str} {Q : VK} {E : XK} (hx : H x = none) (hd : H dx = none) (ng : NameS g) (na : NameS a) (ty : TyX K H (.ref aw) t) (kt : PySem.W.kitAny K t [.type "list", .type "tuple"] = some true)
    (sq : SqL K H aw xs ∨ SqT K H aw xs) (cs : CondsAt K H xs rows) (ok : RowsOk rows) (l8 : xs.length ≤ 8) (hdd : H d = some (.dK kvs)) (lk : kvs.length ≤ 1000) (kok : ∀ kv ∈ kvs, KeyOk kv.1) (nm : (kvs.all fun kv => keyNm kv.1) = true) (ek : kvs.map (·.1) = ks.map Sum.inr) (l2 : ks.length < 64) (nd : ks.Nodup) (all : ∀ u ∈ ks, ∃ v, valV kvs (.inr u) = some v ∧ MvB K H v true) (k : ∀ H', Same H H' → Q .non H') :
    spRuleI K [.ref x, .str g, .str a, .ref aw, .ref d] (upd (upd H dx (.own x)) x (.ins (aRu K) dx [])) Q E := by
  have up := ins_same (o := .ins (aRu K) dx []) hx hd
  have ex : upd (upd H dx (.own x)) x (.ins (aRu K) dx []) x = some (.ins (aRu K) dx []) := upd_same
  refine ⟨x, dx, _, _, _, _, rfl, .inr ⟨names2 ng na, fun H1 s1 => ?_⟩⟩
  have u1 := up.trans s1
  refine ⟨_, rfl, .inr ⟨aw, xs, t, rfl, TyX.same' ty u1, kt, sq.imp (fun h => L2.SqL.ext h u1) (fun h => L2.SqT.ext h u1), by omega, .inl ⟨conds_cond (cs.same u1) ok, fun H2 s2 => ?_⟩⟩⟩
  refine ⟨_, rfl, .inr (.inr (.inr ⟨d, kvs, rfl, (u1.trans s2) _ _ hdd, lk, kok, .inr ⟨nm, ks, ek, l2, .inl ⟨fun u hu => ?_, fun H3 s3 => ?_⟩⟩⟩))⟩
  · obtain ⟨v, hv, m⟩ := all u hu
    exact ⟨v, hv, m.same (u1.trans s2)⟩
  have u3 := (u1.trans s2).trans s3
  exact ⟨s3 _ _ (s2 _ _ (s1 _ _ ex)), aw, xs, rfl, sq.imp (fun h => L2.SqL.ext h u3) (fun h => L2.SqT.ext h u3), .inr ⟨rows, kvs, ks, l8, cs.same u3, .inr ⟨d, rfl, u3 _ _ hdd, ek, l2, nd⟩, fun H' tw md ys kp pm so hr hm hs => k H' (fun b o e => kp b o (ne_of_none e hx) (u3 b o e))⟩⟩
theorem good_rows {H : Hp} : ∀ acc : List V, (∀ v ∈ acc, GoodC H v) → ∃ rows, CondsAt K H acc rows ∧ RowsOk rows
  | [], _ => ⟨[], ⟨rfl, fun i v r e => by cases e⟩, fun r hr => by cases hr⟩
  | v :: t, h => by
    obtain ⟨rows, c, ok⟩ := good_rows t fun u hu => h u (List.mem_cons_of_mem _ hu)
    obtain ⟨cc, k, e, hc⟩ := h v List.mem_cons_self
    refine ⟨("x", "from", (k : Rat)) :: rows, ⟨by rw [List.length_cons, List.length_cons, c.1], fun i u r e1 e2 => ?_⟩, fun r hr => ?_⟩
    · match i, e1, e2 with
      | 0, e1, e2 =>
        cases e1
        cases e2
        exact ⟨cc, .int k, e, hc, .inl ⟨k, rfl, rfl⟩⟩
      | i + 1, e1, e2 => exact c.2 i u r e1 e2
    · rcases List.mem_cons.mp hr with rfl | hr
      · exact ⟨NameS.of (by show nameD "x" = true; decide +kernel), (by decide +kernel : sideB "from" = true)⟩
      · exact ok r hr
theorem BX.put {T : List (Addr × Str)} {G0 G G1 : Hp} {d : Addr} {o0 o : HO} (b : BX T G0 G) (n : G d = none) (k : Same (upd G d o0) G1) : BX T G0 (upd G1 d o) := b.stS fun c o' e => by
  rw [upd_ne (ne_of_none e n)]
  exact k c o' (by rw [upd_ne (ne_of_none e n)]; exact e)
end
section
variable {P : Program} {w : World} {K : PySem.W.Frag} {mg : Str → Option Value} {base : Heap}
structure LT (P : Program) (w : World) (K : PySem.W.Frag) (mg : Str → Option Value) (base : Heap) : Prop where
  N : LN P w K mg base
  R : RG P w K mg base
  M : MkM P w K mg base
  MM : PySem.W.kitOne K (.ref (aM K)) (.ref (aM K)) = some true
abbrev nTaken : List Str := ["_law_eight", "_law_k", "_law_told_here", "_law_wide"]
theorem scTaken : FnScope nTaken [] (defScope sTaken) := ⟨rfl, rfl, rfl, by decide +kernel, rfl, by decide +kernel, by decide +kernel⟩
theorem ok_taken {f c tb : Addr} {T : List (Addr × Str)} {fd : FuncData} (F : Fun K "_law_taken_right" "_law_taken_right" sTaken f fd) (hc : fd.code = .ref c) (TB : LamX.TabB base mg c tb) (mT : (tb, lamTaken) ∈ T) (one : ∀ p ∈ T, p.1 = tb → p.2 = lamTaken) (X : LT P w K mg base) : FnG P w K mg base CX0 10 f fd [] (spUnknown T) := by
  obtain ⟨fT, fdT, FT, gT, bT⟩ := X.N.M.told
  obtain ⟨fU, fdU, gU, MU, GU, KU⟩ := X.N.mU1
  obtain ⟨fU2, fdU2, gU2, MU2, GU2, KU2⟩ := X.N.M.mU
  obtain ⟨fR, fdR, dR, MR, GR, vR, _, bR⟩ := X.R.mR
  obtain ⟨fM, fdM, MM, GM, bM⟩ := X.M.mM
  have TM := X.M.T
  have TR := X.R.T
  have U := X.N.M.U
  obtain ⟨ocT, odT, kVT, docT, pmT, anT, cdT, ctT, oslT, rfl, lkT, hcT⟩ := FT.ex
  have kT := FT.kp
  obtain ⟨oc_, od, kV, doc, pm, an, cdv, ct, osl, rfl, lk, hcd⟩ := F.ex
  obtain rfl : cdv = .ref c := hc
  refine FnG.ofBody lk hcd scTaken (fun vs H Q E h => ?_) (fun A outer sh H vs Q E gd hr h => ?_)
  · obtain ⟨rfl, _⟩ := h
    rfl
  · obtain ⟨rfl, tabs, k⟩ := h
    have hu := hr.units
    suffices z : ∃ y, PSs (cxOf CX0 P w K mg base nTaken "_law_taken_right" (defScope sTaken) f (.ref c) A outer sh H E).nox (defBody sTaken) y ∧ y { nx := fun _ H' => Q .non H', rt := Q } (L2.start nTaken []) H by
      obtain ⟨y, h, q⟩ := z
      exact ⟨y, h.nox, q⟩
    refine ⟨_, pss_cons (ps_set (i := 0) scTaken.nd rfl (Or.inr rfl) (pe_lc (own := [("_law_k", 1)]) (g := gName 1) (tt := tYes) (te := tTup (tCons (tC (.str "x")) (tCons (tC (.str "from")) (tCons (tVar 1) tNil)))) rfl scTaken.nd (pi_range1 (by rfl) X.N.rng (pa_cons pe_int pa_nil))
        (blkOk_by (own := [("_law_k", 1)]) (N := nTaken) (sc := defScope sTaken) (by decide +kernel)) (fun _ _ _ _ _ => pg_name (i := 1) scTaken.nd rfl (Or.inl rfl)) (fun _ _ _ _ _ => pts_nil)
        (fun _ _ _ _ _ => by exact (pe_tup (pa_cons pe_str (pa_cons pe_str (pa_cons (pv 1) pa_nil)))))))
      (pss_cons (ps_set (i := 2) scTaken.nd rfl (Or.inl rfl) (pe_lst (pa_cons (pe_told (T := T) (TT := TT21 K) (k := 6) rfl gT kT lkT hcT bT scTold rfl (.inl rfl) (told21 (k := 3) rfl X.N.M.F).gives TB rfl mT one (hr.mono (by decide)) (LamX.lamS_by (sc := defScope sTaken) (by decide +kernel)) rfl (fun _ _ _ _ _ => rfl) (fun A outer s H E f c' hA hr6 => pe_makeK (ks := ["when"]) MU GU hr6 rfl U.gU KU (passE (takes_of rfl rfl rfl rfl)) (pa_cons pe_str (pa_cons pe_str pa_nil)) (pk_cons (pv 0) pk_nil))) pa_nil)))
      (pss_cons (ps_expr (pe_bm PySem.F.plainAttrs_list PySem.F.slot_list_append PySem.F.type_list_append mt_append (pv 2) (pa_cons (pe_told (T := T) (TT := TT21 K) (k := 6) rfl gT kT lkT hcT bT scTold rfl (.inl rfl) (told21 (k := 3) rfl X.N.M.F).gives TB rfl mT one (hr.mono (by decide)) (LamX.lamS_by (sc := defScope sTaken) (by decide +kernel)) rfl (fun _ _ _ _ _ => rfl) (fun A outer s H E f c' hA hr6 => pe_makeK (ks := ["when", "moves"]) MU2 GU2 hr6 rfl U.gU KU2 (passE (takes_of rfl rfl rfl rfl)) (pa_cons pe_str (pa_cons pe_str pa_nil)) (pk_cons (pe_tup pa_nil) (pk_cons pe_dnewK pk_nil)))) pa_nil)))
      (pss_cons (ps_set (i := 3) scTaken.nd rfl (Or.inr rfl) (pe_disp (pps_cons pe_str (pe_make MM GM (hr.mono (by decide)) rfl TM.gM bM .nil pass0 (pa_cons pe_int (pa_cons pe_int (pa_cons pe_int (pa_cons pe_int pa_nil))))) pps_nil) (by rfl) (by rfl) (fun z => by cases z) (by decide)))
      (pss_cons (ps_expr (pe_bm PySem.F.plainAttrs_list PySem.F.slot_list_append PySem.F.type_list_append mt_append (pv 2) (pa_cons (pe_told (T := T) (TT := TT21 K) (k := 6) rfl gT kT lkT hcT bT scTold rfl (.inl rfl) (told21 (k := 3) rfl X.N.M.F).gives TB rfl mT one (hr.mono (by decide)) (LamX.lamS_by (sc := defScope sTaken) (by decide +kernel)) rfl (fun _ _ _ _ _ => rfl) (fun A outer s H E f c' hA hr6 => pe_makeK (ks := ["when", "moves"]) MU2 GU2 hr6 rfl U.gU KU2 (passE (takes_of rfl rfl rfl rfl)) (pa_cons pe_str (pa_cons pe_str pa_nil)) (pk_cons (pe_lst (pa_cons (pe_tup (pa_cons pe_str (pa_cons pe_str (pa_cons (pe_make MR GR (hr6.mono (by decide)) rfl TR.gR bR .nil pass0 (pa_cons (pe_un un_neg pe_int) (pa_cons pe_int pa_nil))) pa_nil)))) pa_nil)) (pk_cons (pv 3) pk_nil)))) pa_nil)))
      (pss_one (ps_ret (pe_cmpR (op_eqD hu) (pv 2) (pe_op op_rep (pe_lst (pa_cons (pe_lst (pa_cons pe_str pa_nil)) pa_nil)) pe_int) (nomark _)))))))), ?_⟩
    refine ⟨_, rfl, by decide, by decide, fun D hD => ?_⟩
    have uD := same_new (o := .lst []) hD
    refine lc_range (lo := 0) (n := 8) (fun i G => Same H G ∧ ∃ acc, G D = some (.lst acc) ∧ acc.length = i ∧ ∀ v ∈ acc, GoodC G v) ⟨uD, [], upd_same, rfl, fun v hv => by cases hv⟩ ?_ ?_
    · rintro i G hi ⟨sG, acc, hacc, la, all⟩
      refine ⟨rfl, ?_⟩
      refine ⟨_, rfl, (by show 3 ≤ sizeLine; decide), fun t nt => ?_⟩
      have ut := same_new (o := .tup [V.str "x", .str "from", .int (0 + (i : Int))]) nt
      have ht : upd G t (.tup [V.str "x", .str "from", .int (0 + (i : Int))]) t = some (.tup [V.str "x", .str "from", .int (0 + (i : Int))]) := upd_same
      generalize upd G t (.tup [V.str "x", .str "from", .int (0 + (i : Int))]) = G2 at *
      have hacc2 := ut _ _ hacc
      refine ⟨acc, hacc2, by rw [la, sizeLine_eq]; omega, fun b o e => ?_, acc ++ [.ref t], upd_same, by rw [List.length_append, la]; rfl, fun v hv => ?_⟩
      · have e2 := ut _ _ (sG _ _ e)
        rw [upd_ne (ne_of_none e hD)]
        exact e2
      · have keep : ∀ {c : Addr} {ys : List V}, G2 c = some (.tup ys) → upd G2 D (.lst (acc ++ [.ref t])) c = some (.tup ys) := fun {c ys} e => by
          rw [upd_ne (fun z => by rw [z, hacc2] at e; cases e)]
          exact e
        rcases List.mem_append.mp hv with h | h
        · obtain ⟨c, k, e, h⟩ := (all v h).same ut
          exact ⟨c, k, e, keep h⟩
        · rw [List.mem_singleton.mp h]
          exact ⟨t, _, rfl, keep ht⟩
    rintro G0 ⟨s0, acc, hacc, la, all⟩
    replace la : acc.length = 8 := la
    have b0 : BX T G0 G0 := ⟨LamX.ExtN.refl _, Tabs.same tabs s0⟩
    refine ⟨b0.tb, fun G1 x1 t1 => ?_⟩
    have b1 := b0.stE x1 t1
    refine tt_oc (oc := .made) (fun E H1 R s o => ?_) (fun ra G2 s2 n2 ea => ⟨(by show 1 ≤ sizeLine; decide), fun W nW => ?_⟩)
    · have z := b1.stS s
      have hD1 : H1 D = some (.lst acc) := z.ex _ _ hacc fun _ z => by cases z
      obtain ⟨rows, cs, ok⟩ := good_rows (H := H1) acc fun v hv => (all v hv).ext z.ex
      refine ⟨_, rfl, rfl, rfl, fun x dx hx hd ne => ?_⟩
      exact rule_ok (rows := rows) hx hd (NameS.of (by decide +kernel)) (NameS.of (by decide +kernel)) (.base (.lst hD1)) kit_list (.inl (SqL.of hD1)) cs ok (by omega) fun H' s' hb => ⟨rfl, o _ _ s'⟩
    have b2 := b1.stS s2
    have nw := b2.new nW
    have u3 := same_new (o := .lst [V.ref ra]) nW
    have b3 := b2.stS u3
    have hW : upd G2 W (.lst [V.ref ra]) W = some (.lst [V.ref ra]) := upd_same
    have ea3 := u3 _ _ ea
    generalize upd G2 W (.lst [V.ref ra]) = G3 at *
    refine ⟨_, rfl, .inl ⟨rfl, _, SqL.of hW⟩, b3.tb, fun G4 x4 t4 => ?_⟩
    have c1 := b3.stE x4 t4
    refine tt_oc (oc := .made) (fun E H1 R s o => ?_) (fun rb G5 s5 n5 e5 => ?_)
    · refine ⟨(by show 0 ≤ sizeLine; decide), fun e ne => ?_⟩
      have v1 := same_new (o := .tup []) ne
      have w1 : upd H1 e (.tup []) e = some (.tup []) := upd_same
      generalize upd H1 e (.tup []) = H2 at *
      intro d nd
      have v2 := same_new (o := .dK []) nd
      have w2 : upd H2 d (.dK []) d = some (.dK []) := upd_same
      generalize upd H2 d (.dK []) = H3 at *
      refine ⟨rfl, rfl, fun x dx hx hd ne => ?_⟩
      exact rule_okM (rows := []) (kvs := []) (ks := []) hx hd (NameS.of (by decide +kernel)) (NameS.of (by decide +kernel)) (.base (.tup (v2 _ _ w1))) kit_tuple (.inr (SqT.of (v2 _ _ w1))) ⟨rfl, fun i v r e1 => by cases e1⟩ (fun r hr => by cases hr) (Nat.zero_le _) w2 (Nat.zero_le _) (fun kv hk => by cases hk) rfl rfl (by decide) List.nodup_nil (fun u hu => by cases hu) fun H' s' => ⟨rfl, o _ _ ((v1.trans v2).trans s')⟩
    have c2 := c1.stS s5
    have hW2 := s5 _ _ (x4 _ _ hW fun _ z => by cases z)
    have rW : rb ≠ W := (ne_of_none (x4 _ _ hW fun _ z => by cases z) n5).symm
    have ea5 := s5 _ _ (x4 _ _ ea3 fun _ z => by cases z)
    refine ⟨W, _, _, rfl, rfl, hW2, by show 1 < sizeLine; decide, ?_⟩
    have b4 := c2.upL (o := .lst ([V.ref ra] ++ [.ref rb])) nw hW2
    have hWn : upd G5 W (.lst ([V.ref ra] ++ [.ref rb])) W = some (.lst [V.ref ra, .ref rb]) := upd_same
    have f_rb : upd G5 W (.lst ([V.ref ra] ++ [.ref rb])) rb = _ := (upd_ne rW).trans e5
    have f_ra : upd G5 W (.lst ([V.ref ra] ++ [.ref rb])) ra = _ := (upd_ne (fun z => by rw [z, hW2] at ea5; cases ea5)).trans ea5
    generalize upd G5 W (.lst ([V.ref ra] ++ [.ref rb])) = G6 at *
    clear hW hW2 ea3 ea5 x4 t4 c1 s5 n5 e5 c2 rW b3 x1 t1 b1
    intro dd ndd
    intro g dg hg hdg neg
    refine made_mov hg hdg (by decide) (szI (by show 0 < 2 ^ 100000; exact Nat.two_pow_pos _) (by decide)) (szI (by show 0 < 2 ^ 100000; exact Nat.two_pow_pos _) (by decide)) (by decide +kernel) fun HG sG mg_ => ⟨rfl, ?_⟩
    obtain ⟨_, _, gdx, ga, gb, gc, eg, _⟩ := mg_
    refine ⟨sG _ _ upd_same, [((Sum.inr ("q.r" : Str) : Key), V.ref g)], rfl, by show 1 ≤ 15; decide, ?_⟩
    rw [show mergeK [] [((Sum.inr ("q.r" : Str) : Key), V.ref g)] = [((Sum.inr ("q.r" : Str) : Key), V.ref g)] from by simp [mergeK, putK]]
    have gne := upd_new_ne hg
    have b5 := b4.put (o := .dK [((Sum.inr ("q.r" : Str) : Key), V.ref g)]) ndd sG
    have sH : Same G6 (upd HG dd (.dK [((Sum.inr ("q.r" : Str) : Key), V.ref g)])) := fun b o e => by
      rw [upd_ne (ne_of_none e ndd)]
      exact sG _ _ (by rw [upd_ne (ne_of_none e ndd)]; exact e)
    have hdd : upd HG dd (.dK [((Sum.inr ("q.r" : Str) : Key), V.ref g)]) dd = some (.dK [((Sum.inr ("q.r" : Str) : Key), V.ref g)]) := upd_same
    have hgg := (upd_ne (o := .dK [((Sum.inr ("q.r" : Str) : Key), V.ref g)]) gne).trans eg
    generalize upd HG dd (.dK [((Sum.inr ("q.r" : Str) : Key), V.ref g)]) = G7 at *
    replace hWn := sH _ _ hWn
    replace f_ra := sH _ _ f_ra
    replace f_rb := sH _ _ f_rb
    clear sG eg sH b4
    refine ⟨_, rfl, .inl ⟨rfl, _, SqL.of hWn⟩, b5.tb, fun G8 x8 t8 => ?_⟩
    have d1 := b5.stE x8 t8
    refine tt_oc (oc := .made) (fun E H1 R s o => ?_) (fun rc G9 s9 n9 e9 => ?_)
    · have hdd1 := s _ _ (x8 _ _ hdd fun _ z => by cases z)
      have hgg1 := s _ _ (x8 _ _ hgg fun _ z => by cases z)
      refine ⟨_, rfl, ?_⟩
      intro r dr hr_ hdr ner
      refine made_ratR hr_ hdr ner (by decide) (by show 3 < 2 ^ 9000; exact Nat.lt_of_lt_of_le (by decide : 3 < 2 ^ 2) (Nat.pow_le_pow_right (by decide) (by decide))) fun H2 s2 rat => ⟨rfl, ?_⟩
      refine ⟨(by show 3 ≤ sizeLine; decide), fun t nt => ?_⟩
      have v1 := same_new (o := .tup [V.str "a", .str "to", .ref r]) nt
      have w1 : upd H2 t (.tup [V.str "a", .str "to", .ref r]) t = some (.tup [V.str "a", .str "to", .ref r]) := upd_same
      generalize upd H2 t (.tup [V.str "a", .str "to", .ref r]) = H3 at *
      refine ⟨(by show 1 ≤ sizeLine; decide), fun l nl => ?_⟩
      have v2 := same_new (o := .lst [V.ref t]) nl
      have w2 : upd H3 l (.lst [V.ref t]) l = some (.lst [V.ref t]) := upd_same
      generalize upd H3 l (.lst [V.ref t]) = H4 at *
      have vA := (s2.trans v1).trans v2
      refine ⟨_, rfl, rfl, rfl, fun x dx hx hd ne => ?_⟩
      refine rule_okM (rows := [("a", "to", Rat.divInt (-7) 3)]) (kvs := [((Sum.inr ("q.r" : Str) : Key), V.ref g)]) (ks := ["q.r"]) hx hd (NameS.of (by decide +kernel)) (NameS.of (by decide +kernel)) (.base (.lst w2)) kit_list (.inl (SqL.of w2)) ⟨rfl, fun i v q e1 e2 => ?_⟩ (fun q hq => ?_) (by show 1 ≤ 8; decide) (vA _ _ hdd1) (by show 1 ≤ 1000; decide) (fun kv hk => ?_) (by simp only [List.all_cons, List.all_nil]; decide +kernel) rfl (by show 1 < 64; decide) (by simp) (fun u hu => ?_) fun H' s' => ⟨rfl, o _ _ (vA.trans s')⟩
      · match i, e1, e2 with
        | 0, e1, e2 =>
          cases e1
          cases e2
          exact ⟨t, .ref r, rfl, v2 _ _ w1, .inr ⟨r, rfl, (rat.same v1).same v2⟩⟩
      · rw [List.mem_singleton.mp hq]
        exact ⟨NameS.of (by show nameD "a" = true; decide +kernel), (by decide +kernel : sideB "to" = true)⟩
      · rw [List.mem_singleton.mp hk]
        exact keyOk_of (by decide +kernel)
      · rw [List.mem_singleton.mp hu]
        exact ⟨.ref g, by simp [valV], _, .base (.ins (vA _ _ hgg1) TM.cl TM.kc TM.sp TM.tk TM.ob), X.MM⟩
    have d2 := d1.stS s9
    have hW9 := s9 _ _ (x8 _ _ hWn fun _ z => by cases z)
    have rW : rc ≠ W := (ne_of_none (x8 _ _ hWn fun _ z => by cases z) n9).symm
    have f_ra9 := s9 _ _ (x8 _ _ f_ra fun _ z => by cases z)
    have f_rb9 := s9 _ _ (x8 _ _ f_rb fun _ z => by cases z)
    refine ⟨W, _, _, rfl, rfl, hW9, by show 2 < sizeLine; decide, ?_⟩
    have b6 := d2.upL (o := .lst ([V.ref ra, .ref rb] ++ [.ref rc])) nw hW9
    have hWz : upd G9 W (.lst ([V.ref ra, .ref rb] ++ [.ref rc])) W = some (.lst [V.ref ra, .ref rb, .ref rc]) := upd_same
    have z_rc : upd G9 W (.lst ([V.ref ra, .ref rb] ++ [.ref rc])) rc = _ := (upd_ne rW).trans e9
    have z_ra : upd G9 W (.lst ([V.ref ra, .ref rb] ++ [.ref rc])) ra = _ := (upd_ne (fun z => by rw [z, hW9] at f_ra9; cases f_ra9)).trans f_ra9
    have z_rb : upd G9 W (.lst ([V.ref ra, .ref rb] ++ [.ref rc])) rb = _ := (upd_ne (fun z => by rw [z, hW9] at f_rb9; cases f_rb9)).trans f_rb9
    generalize upd G9 W (.lst ([V.ref ra, .ref rb] ++ [.ref rc])) = Gz at *
    refine ⟨_, rfl, (by show 1 ≤ sizeLine; decide), fun i1 m1 => ?_⟩
    have v1 := same_new (o := .lst [V.str "made"]) m1
    have y1 : upd Gz i1 (.lst [V.str "made"]) i1 = some (.lst [V.str "made"]) := upd_same
    generalize upd Gz i1 (.lst [V.str "made"]) = Ga at *
    refine ⟨(by show 1 ≤ sizeLine; decide), fun i2 m2 => ?_⟩
    have v2 := same_new (o := .lst [V.ref i1]) m2
    have y2 : upd Ga i2 (.lst [V.ref i1]) i2 = some (.lst [V.ref i1]) := upd_same
    generalize upd Ga i2 (.lst [V.ref i1]) = Gb at *
    refine ⟨i2, 3, _, rfl, rfl, y2, by decide, by decide, (by show 1 * 3 ≤ sizeLine; decide), fun i3 m3 => ?_⟩
    have v3 := same_new (o := .lst (List.replicate (3 : Int).toNat [V.ref i1]).flatten) m3
    have y3 : upd Gb i3 (.lst (List.replicate (3 : Int).toNat [V.ref i1]).flatten) i3 = some (.lst [V.ref i1, .ref i1, .ref i1]) := upd_same
    generalize upd Gb i3 (.lst (List.replicate (3 : Int).toNat [V.ref i1]).flatten) = Gc at *
    have vA := (v1.trans v2).trans v3
    have dp : ∀ {r : Addr}, Gc r = some (.lst [.str "made"]) → Dp K Gc (.ref r) (.list [.str "made"]) := fun e => .lst (SqL.of e) (.cons (.str _) .nil)
    have yi := v3 _ _ (v2 _ _ y1)
    refine ⟨.list [.list [.str "made"], .list [.str "made"], .list [.str "made"]], .list [.list [.str "made"], .list [.str "made"], .list [.str "made"]], .lst (SqL.of (vA _ _ hWz)) (.cons (dp (vA _ _ z_ra)) (.cons (dp (vA _ _ z_rb)) (.cons (dp (vA _ _ z_rc)) .nil))),
      .lst (SqL.of y3) (.cons (dp yi) (.cons (dp yi) (.cons (dp yi) .nil))), by decide +kernel, by decide +kernel, ?_⟩
    have ee : PyData.eqv (.list [.list [.str "made"], .list [.str "made"], .list [.str "made"]]) (.list [.list [.str "made"], .list [.str "made"], .list [.str "made"]]) = true := by simp [PyData.eqv, PyData.eqvAll]
    rw [ee]
    have bZ := b6.stS vA
    exact k _ ((same_extN s0).trans bZ.ex) bZ.tb
end
end K18
set_option maxHeartbeats 4000000
namespace K18
open PySem PySem.Spec PyProof.Rows L2 GL StX
abbrev sLaw : Stmt := tp 50
section
variable {P : Program} {w : World} {K : PySem.W.Frag} {mg : Str → Option Value} {base : Heap}
theorem sqL_ext {H H' : Hp} {a : Addr} {xs : List V} (h : SqL K H a xs) (k : LamX.ExtN H H') : SqL K H' a xs := by
  rcases h with (h | ⟨o, h⟩) | h
  · exact .inl (.inl (k _ _ h fun _ z => by cases z))
  · exact .inl (.inr ⟨o, k _ _ h fun _ z => by cases z⟩)
  · exact .inr h
def spLaw (K : PySem.W.Frag) (T : List (Addr × Str)) : Sp := fun vs H Q _ => ∃ (a : Addr) (ns : List Int), vs = [.ref a] ∧ SqL K H a (ns.map V.int) ∧ ns.length ≤ 63 ∧ LamX.Tabs T H ∧ ∀ H', Q (.bl true) H'
abbrev nLaw : List Str := ["_law_script", "_law_index", "_law_pot_here", "_law_turn"]
theorem scLaw : FnScope nLaw ["_law_script"] (defScope sLaw) := ⟨rfl, rfl, rfl, by decide +kernel, rfl, by decide +kernel, by decide +kernel⟩
theorem ok_law {T : List (Addr × Str)} {f : Addr} {fd : FuncData} (F : Fun K "law" "law" sLaw f fd) (M : Free mg) (rg : DefF P w K mg base "_law_pot" 1 ["_law_script", "_law_index"] (spRng K)) (rf : DefG P w K mg base "_law_refused" 11 ["_law_pot_here"] (spRefusedR K T))
    (un : DefG P w K mg base "_law_unknown_right" 10 [] (spUnknown T)) (ta : DefG P w K mg base "_law_taken_right" 10 [] (spUnknown T)) (ni : DefG P w K mg base "_law_ninth_right" 10 [] (spUnknown T)) :
    FnG P w K mg base CX0 12 f fd ["_law_script"] (spLaw K T) := by
  obtain ⟨fG, fdG, GG, gG, bG, kG⟩ := rg
  obtain ⟨fR, fdR, GR, gR, bR, kR⟩ := rf
  obtain ⟨fU, fdU, GU, gU, bU, kU⟩ := un
  obtain ⟨fA, fdA, GA, gA, bA, kA⟩ := ta
  obtain ⟨fN, fdN, GN, gN, bN, kN⟩ := ni
  refine Fun.okG F scLaw (fun vs H Q E h => ?_) (fun cdv A outer s H vs Q E gd hr h => ?_)
  · obtain ⟨a, ns, rfl, _⟩ := h
    rfl
  · obtain ⟨a, ns, rfl, hS, hn, tabs, k⟩ := h
    refine ⟨_, pss_cons (ps_for PassesOwn.never rfl (pi_range1 (by rfl) M.range (pa_cons (pe_callB (call_max2 rfl) (by rfl) M.max (by decide +kernel) (pa_cons pe_int (pa_cons (pe_callB (call_min2 rfl) (by rfl) M.min (by decide +kernel) (pa_cons (pe_callB call_len_seq (by rfl) M.len PySem.boot_len (pa_cons (pv 0) pa_nil)) (pa_cons pe_int pa_nil))) pa_nil))) pa_nil)) (pg_name (i := 1) scLaw.nd rfl (Or.inl rfl))
        (pss_cons (ps_set (i := 2) scLaw.nd rfl (Or.inr rfl) (pe_call GG (hr.mono (by decide)) rfl gG kG bG .nil pass0 (pa_cons (pv 0) (pa_cons (pv 1) pa_nil))))
        (pss_one (ps_if (pt_not (pt_val (pe_callB (cr_all rfl) (by rfl) M.all (by decide +kernel) (pa_cons (pe_lc (own := [("_law_turn", 3)]) (g := gName 3) (tt := tYes) (te := tCall (spRefusedR K T) [] E0 (tCons (tVar 2) tNil)) rfl scLaw.nd (pi_range1 (by rfl) M.range (pa_cons pe_int pa_nil))
          (blkOk_by (own := [("_law_turn", 3)]) (N := nLaw) (sc := defScope sLaw) (by decide +kernel)) (fun _ _ _ _ _ => pg_name (i := 3) scLaw.nd rfl (Or.inl rfl)) (fun _ _ _ _ _ => pts_nil)
          (fun _ _ _ _ _ => by exact (pe_callG GR gd (hr.mono (by decide)) rfl gR kR bR .nil pass0 (pa_cons (pv 2) pa_nil)))) pa_nil)))) (pss_one (ps_ret pe_bl)) pss_nil))))
      (pss_one (ps_ret (pe_and (pe_callG0 GU gd (hr.mono (by decide)) rfl gU kU bU .nil pass0) (pe_and (pe_callG0 GA gd (hr.mono (by decide)) rfl gA kA bA .nil pass0) (pe_one (pe_callG0 GN gd (hr.mono (by decide)) rfl gN kN bN .nil pass0)))))), ?_⟩
    refine ⟨_, rfl, _, _, rfl, .inl hS, ?_⟩
    rw [List.length_map]
    have bd : ∀ z : Int, 0 ≤ z → z ≤ 63 → 0 ≤ (if (if 4 < z then 4 else z) > 1 then (if 4 < z then 4 else z) else 1) ∧ (if (if 4 < z then 4 else z) > 1 then (if 4 < z then 4 else z) else 1) ≤ 4 := by
      intro z h0 h1
      split <;> split <;> omega
    have b := bd ns.length (by omega) (by omega)
    refine ⟨_, _, rfl, _, _, rfl, _, rfl, Int.le_trans (by decide) b.1, Int.lt_of_le_of_lt b.2 (by decide), ?_⟩
    generalize (if (if 4 < (ns.length : Int) then 4 else (ns.length : Int)) > 1 then (if 4 < (ns.length : Int) then 4 else (ns.length : Int)) else 1) = z at b ⊢
    refine for_range (lo := 0) (n := z.toNat) (fun i σ G => LamX.ExtN H G ∧ LamX.Tabs T G ∧ ∃ v1 v2 v3, σ = [some (.ref a), v1, v2, v3]) ⟨LamX.ExtN.refl _, tabs, _, _, _, rfl⟩ ?_ ?_
    · rintro i σ G hi ⟨xG, tG, v1, v2, v3, rfl⟩
      refine ⟨_, rfl, _, rfl, a, ns, _, rfl, sqL_ext hS xG, by omega, by omega, fun p G1 np s1 R1 => ?_⟩
      have t1 := Tabs.same tG s1
      have x1 : LamX.ExtN H G1 := xG.trans (same_extN s1)
      have nH : ∀ o, H p = some o → (∀ ps, o ≠ .tbl ps) → False := fun o e n => by
        have z := xG _ _ e n
        rw [np] at z
        cases z
      refine ⟨_, rfl, by decide, by decide, fun D hD => ?_⟩
      have Dp := R1.ne_new' hD
      have uD := same_new (o := .lst []) hD
      refine lc_range (lo := 0) (n := 12) (fun i G => G D = some (.lst (List.replicate i (.bl true))) ∧ LamX.ExtN H G ∧ LamX.Tabs T G ∧ Rng G p) ⟨upd_same, x1.trans (same_extN uD), Tabs.same t1 uD, R1.same' uD⟩ ?_ ?_
      · rintro i G2 hi2 ⟨h2, x2, t2, R2⟩
        refine ⟨rfl, ?_⟩
        refine ⟨_, rfl, p, rfl, R2, t2, fun G3 e3 R3 t3 => ?_⟩
        have h3 := e3 D _ (by rw [off_ne Dp]; exact h2) (fun _ z => by cases z)
        refine ⟨_, h3, (by rw [List.length_replicate, sizeLine_eq]; omega), ?_, fun y o e n => ?_, tabs_updL t3 h3, ?_⟩
        · rw [upd_same, List.replicate_succ']
        · have yD : y ≠ D := by
            rintro rfl
            have z := x1 _ _ e n
            rw [hD] at z
            cases z
          rw [upd_ne yD]
          refine e3 y o ?_ n
          rw [off_ne (by rintro rfl; exact nH _ e n)]
          exact x2 y o e n
        · obtain ⟨c, d, e, r⟩ := R3
          exact ⟨c, d, by rw [upd_ne Dp.symm]; exact e, r⟩
      · rintro G2 ⟨h2, x2, t2, R2⟩
        refine ⟨D, List.replicate 12 true, rfl, SqL.of h2, _, rfl, ?_⟩
        have ea : (List.replicate 12 true).all id = true := by decide
        rw [ea]
        exact iteF ⟨x2, t2, _, _, _, rfl⟩
    · rintro σ G ⟨xG, tG, v1, v2, v3, rfl⟩
      refine ⟨rfl, tG, fun G1 x1 t1 => ⟨_, rfl, iteT ?_⟩⟩
      refine ⟨rfl, t1, fun G2 x2 t2 => ⟨_, rfl, iteT ?_⟩⟩
      exact ⟨rfl, t2, fun G3 x3 t3 => k G3⟩
end
end K18
set_option maxHeartbeats 0
namespace K18
open PySem PySem.Spec PyProof.Rows L2 GL
structure HY (K T : PySem.W.Frag) (h : Heap) (mg : Str → Option Value) : Prop where
  X : K.In h
  XT : T.In h
  G : h.Ns mainGlobals mg
  D : He.SaysD fas fns K
  Dx : SaysX fxs K
  S : SysK K
  B : (chks K).all id = true
  tab : tabB2 K T (lamF K) = true
theorem HY.chk {K T : PySem.W.Frag} {h : Heap} {mg : Str → Option Value} (Y : HY K T h mg) (i : Nat) {b : Bool} (e : (chks K)[i]? = some b) : b = true := List.all_eq_true.mp Y.B b (List.mem_of_getElem? e)
theorem toR {P : Program} {w : World} {K : PySem.W.Frag} {mg : Str → Option Value} {base : Heap} {CX : CXT} {k : Nat} {f : Addr} {fd : FuncData} {ps : List Str} {sp : Sp} (F : FnOk P w K mg base CX k f fd ps sp) (hb : Binds K fd ps []) : FnR P w K mg base CX k f sp := (F.raw hb .nil).imp fun vs H Q E h => by rw [List.append_nil]; exact h
theorem mro_ok {K : PySem.W.Frag} {C : Addr} (h : mroB K C = true) : ∃ cd rest, PySem.W.clsIn K C = some cd ∧ cd.mro = .ref C :: rest := by
  unfold mroB at h
  split at h
  · rename_i cd e
    split at h
    · rename_i a rest em
      have ea : a = C := eq_of_beq h
      rw [ea] at em
      exact ⟨cd, rest, e, em⟩
    · cases h
  · cases h
section
variable {P : Program} {w : World} {K T : PySem.W.Frag} {h : Heap} {mg : Str → Option Value} {base : Heap}
theorem rf (Y : HY K T h mg) : RF K mg := { cl := (He.cls_ok (Y.D.fact 57 (f := .cls "Ratio") rfl)), nT := (He.noat_ok (Y.D.fact 58 (f := .noat "Ratio" "_top") rfl)), nB := (He.noat_ok (Y.D.fact 59 (f := .noat "Ratio" "_bottom") rfl)), kc := (He.eqO_ok (Y.chk 2 (b := He.eqO (PySem.W.findIn K (.ref (He.ga K "Ratio")) "__class__") (some (some (.builtin "object.__class__")))) rfl)), sp := (of_decide_eq_true (Y.chk 0 (b := decide (PySem.W.specialIn K (.builtin "object.__class__") "__get__" = some (some (.builtin "getset_descriptor.__get__")))) rfl)), tk := (of_decide_eq_true (Y.chk 1 (b := decide (PySem.W.takesIn K (.builtin "object.__class__") = some true)) rfl)), ob := (of_decide_eq_true (Y.chk 3 (b := decide (PySem.W.mroIn K (He.ga K "Ratio") (.type "object") = some true)) rfl)), gR := (He.glo_ok Y.X Y.G (Y.D.fact 11 (f := .glo "Ratio") rfl)), ki := (of_decide_eq_true (Y.chk 10 (b := decide (PySem.W.kitOne K (.ref (He.ga K "Ratio")) (.type "int") = some false)) rfl)), isi := (He.free_ok Y.X Y.G (Y.D.fact 38 (f := .free "isinstance") rfl)), int := (He.free_ok Y.X Y.G (Y.D.fact 39 (f := .free "int") rfl)), bool := (He.free_ok Y.X Y.G (Y.D.fact 40 (f := .free "bool") rfl)) }
theorem mf (Y : HY K T h mg) : MF K mg := { cl := (He.cls_ok (Y.D.fact 61 (f := .cls "Move") rfl)), nD := (He.noat_ok (Y.D.fact 62 (f := .noat "Move" "_divisor") rfl)), nP := (He.noat_ok (Y.D.fact 63 (f := .noat "Move" "_plus") rfl)), nL := (He.noat_ok (Y.D.fact 64 (f := .noat "Move" "_low") rfl)), nH := (He.noat_ok (Y.D.fact 65 (f := .noat "Move" "_high") rfl)), kc := (He.eqO_ok (Y.chk 5 (b := He.eqO (PySem.W.findIn K (.ref (He.ga K "Move")) "__class__") (some (some (.builtin "object.__class__")))) rfl)), sp := (of_decide_eq_true (Y.chk 0 (b := decide (PySem.W.specialIn K (.builtin "object.__class__") "__get__" = some (some (.builtin "getset_descriptor.__get__")))) rfl)), tk := (of_decide_eq_true (Y.chk 1 (b := decide (PySem.W.takesIn K (.builtin "object.__class__") = some true)) rfl)), ob := (of_decide_eq_true (Y.chk 6 (b := decide (PySem.W.mroIn K (He.ga K "Move") (.type "object") = some true)) rfl)), gM := (He.glo_ok Y.X Y.G (Y.D.fact 12 (f := .glo "Move") rfl)) }
theorem uf (Y : HY K T h mg) : UF K mg := { cl := (He.cls_ok (Y.D.fact 67 (f := .cls "Rule") rfl)), nG := (He.noat_ok (Y.D.fact 68 (f := .noat "Rule" "_goal") rfl)), nA := (He.noat_ok (Y.D.fact 69 (f := .noat "Rule" "_answer") rfl)), nW := (He.noat_ok (Y.D.fact 70 (f := .noat "Rule" "_when") rfl)), nM := (He.noat_ok (Y.D.fact 71 (f := .noat "Rule" "_moves") rfl)), gU := (He.glo_ok Y.X Y.G (Y.D.fact 17 (f := .glo "Rule") rfl)) }
theorem free_ (Y : HY K T h mg) : Free mg := { len := (He.free_ok Y.X Y.G (Y.D.fact 41 (f := .free "len") rfl)), abs := (He.free_ok Y.X Y.G (Y.D.fact 42 (f := .free "abs") rfl)), max := (He.free_ok Y.X Y.G (Y.D.fact 43 (f := .free "max") rfl)), min := (He.free_ok Y.X Y.G (Y.D.fact 44 (f := .free "min") rfl)), int := (He.free_ok Y.X Y.G (Y.D.fact 39 (f := .free "int") rfl)), divmod := (He.free_ok Y.X Y.G (Y.D.fact 45 (f := .free "divmod") rfl)), range := (He.free_ok Y.X Y.G (Y.D.fact 49 (f := .free "range") rfl)), all := (He.free_ok Y.X Y.G (Y.D.fact 48 (f := .free "all") rfl)), str := (He.free_ok Y.X Y.G (Y.D.fact 46 (f := .free "str") rfl)), list := (He.free_ok Y.X Y.G (Y.D.fact 47 (f := .free "list") rfl)), repr := (He.free_ok Y.X Y.G (Y.D.fact 51 (f := .free "repr") rfl)), any := (He.free_ok Y.X Y.G (Y.D.fact 52 (f := .free "any") rfl)) }
theorem nf (Y : HY K T h mg) : NF K mg := { isi := (He.free_ok Y.X Y.G (Y.D.fact 38 (f := .free "isinstance") rfl)), str := (He.free_ok Y.X Y.G (Y.D.fact 46 (f := .free "str") rfl)), list := (He.free_ok Y.X Y.G (Y.D.fact 47 (f := .free "list") rfl)), tuple := (He.free_ok Y.X Y.G (Y.D.fact 50 (f := .free "tuple") rfl)), dict := (He.free_ok Y.X Y.G (Y.D.fact 53 (f := .free "dict") rfl)), len := (He.free_ok Y.X Y.G (Y.D.fact 41 (f := .free "len") rfl)), all := (He.free_ok Y.X Y.G (Y.D.fact 48 (f := .free "all") rfl)), let_ := (by obtain ⟨t, e⟩ := He.str_ok Y.X Y.G (Y.D.fact 37 (f := .str "LETTERS" "abcdefghijklmnopqrstuvwxyz") rfl); exact ⟨_, e, t, rfl⟩), lng := (by obtain ⟨t, e⟩ := He.int_ok Y.X Y.G (Y.D.fact 35 (f := .int "LONGEST_WORD" 8) rfl); exact ⟨_, e, t, rfl⟩) }
theorem ef (Y : HY K T h mg) : EF K mg := { xA := xcB_ok (Y.chk 19 (b := xcB K (He.ga K "InvalidName") .ve) rfl), xL := xcB_ok (Y.chk 24 (b := xcB K (He.ga K "InvalidRule") .ve) rfl), xT := xcB_ok (Y.chk 30 (b := xcB K (He.ga K "TooMany") .ve) rfl), gA := (He.glo_ok Y.X Y.G (Y.D.fact 1 (f := .glo "InvalidName") rfl)), gL := (He.glo_ok Y.X Y.G (Y.D.fact 2 (f := .glo "InvalidRule") rfl)), gT := (He.glo_ok Y.X Y.G (Y.D.fact 3 (f := .glo "TooMany") rfl)), gF := (He.glo_ok Y.X Y.G (Y.D.fact 0 (f := .glo "FadeError") rfl)), nAv := (He.eqO_ok (Y.chk 20 (b := He.eqO (PySem.W.findIn K (.ref (He.ga K "InvalidName")) "value") (some none)) rfl)), nLp := (He.eqO_ok (Y.chk 25 (b := He.eqO (PySem.W.findIn K (.ref (He.ga K "InvalidRule")) "part") (some none)) rfl)), nLq := (He.eqO_ok (Y.chk 26 (b := He.eqO (PySem.W.findIn K (.ref (He.ga K "InvalidRule")) "position") (some none)) rfl)), nTk := (He.eqO_ok (Y.chk 31 (b := He.eqO (PySem.W.findIn K (.ref (He.ga K "TooMany")) "kind") (some none)) rfl)), nTl := (He.eqO_ok (Y.chk 32 (b := He.eqO (PySem.W.findIn K (.ref (He.ga K "TooMany")) "limit") (some none)) rfl)), aa := (of_decide_eq_true (Y.chk 37 (b := decide (PySem.W.exmOne K (.ref (He.ga K "InvalidName")) (.ref (He.ga K "InvalidName")) = some true)) rfl)), la := (of_decide_eq_true (Y.chk 38 (b := decide (PySem.W.exmOne K (.ref (He.ga K "InvalidRule")) (.ref (He.ga K "InvalidName")) = some false)) rfl)), ll := (of_decide_eq_true (Y.chk 39 (b := decide (PySem.W.exmOne K (.ref (He.ga K "InvalidRule")) (.ref (He.ga K "InvalidRule")) = some true)) rfl)), ta := (of_decide_eq_true (Y.chk 40 (b := decide (PySem.W.exmOne K (.ref (He.ga K "TooMany")) (.ref (He.ga K "InvalidName")) = some false)) rfl)), tl := (of_decide_eq_true (Y.chk 41 (b := decide (PySem.W.exmOne K (.ref (He.ga K "TooMany")) (.ref (He.ga K "InvalidRule")) = some false)) rfl)), tt := (of_decide_eq_true (Y.chk 42 (b := decide (PySem.W.exmOne K (.ref (He.ga K "TooMany")) (.ref (He.ga K "TooMany")) = some true)) rfl)), fA := (of_decide_eq_true (Y.chk 23 (b := decide (PySem.W.kitOne K (.ref (He.ga K "InvalidName")) (.ref (He.ga K "FadeError")) = some true)) rfl)), fL := (of_decide_eq_true (Y.chk 29 (b := decide (PySem.W.kitOne K (.ref (He.ga K "InvalidRule")) (.ref (He.ga K "FadeError")) = some true)) rfl)), fT := (of_decide_eq_true (Y.chk 35 (b := decide (PySem.W.kitOne K (.ref (He.ga K "TooMany")) (.ref (He.ga K "FadeError")) = some true)) rfl)), vA := (of_decide_eq_true (Y.chk 36 (b := decide (PySem.W.kitOne K (.ref (He.ga K "InvalidName")) (.type "ValueError") = some true)) rfl)), isi := (He.free_ok Y.X Y.G (Y.D.fact 38 (f := .free "isinstance") rfl)), ve := (He.free_ok Y.X Y.G (Y.D.fact 56 (f := .free "ValueError") rfl)), sp := (of_decide_eq_true (Y.chk 0 (b := decide (PySem.W.specialIn K (.builtin "object.__class__") "__get__" = some (some (.builtin "getset_descriptor.__get__")))) rfl)), tk := (of_decide_eq_true (Y.chk 1 (b := decide (PySem.W.takesIn K (.builtin "object.__class__") = some true)) rfl)) }
theorem nor (Y : HY K T h mg) : NoR K := ⟨(of_decide_eq_true (Y.chk 43 (b := decide (PySem.W.kitOne K (.type "NoneType") (.ref (He.ga K "Ratio")) = some false)) rfl)), (of_decide_eq_true (Y.chk 44 (b := decide (PySem.W.kitOne K (.type "bool") (.ref (He.ga K "Ratio")) = some false)) rfl)), (of_decide_eq_true (Y.chk 45 (b := decide (PySem.W.kitOne K (.type "str") (.ref (He.ga K "Ratio")) = some false)) rfl))⟩
theorem nom (Y : HY K T h mg) : NoM K := ⟨(of_decide_eq_true (Y.chk 46 (b := decide (PySem.W.kitOne K (.type "NoneType") (.ref (He.ga K "Move")) = some false)) rfl)), (of_decide_eq_true (Y.chk 47 (b := decide (PySem.W.kitOne K (.type "int") (.ref (He.ga K "Move")) = some false)) rfl)), (of_decide_eq_true (Y.chk 48 (b := decide (PySem.W.kitOne K (.type "tuple") (.ref (He.ga K "Move")) = some false)) rfl)), (of_decide_eq_true (Y.chk 49 (b := decide (PySem.W.kitOne K (.type "str") (.ref (He.ga K "Move")) = some false)) rfl)), (of_decide_eq_true (Y.chk 50 (b := decide (PySem.W.kitOne K (.type "dict") (.ref (He.ga K "Move")) = some false)) rfl)), (of_decide_eq_true (Y.chk 51 (b := decide (PySem.W.kitOne K (.ref (He.ga K "Ratio")) (.ref (He.ga K "Move")) = some false)) rfl))⟩
theorem own_add (Y : HY K T h mg) : OwnBin K (aR K) .Add (He.ma K (aR K) "__add__") := ⟨by exact (He.meth_ok (Y.D.fact 75 (f := .meth "Ratio" "__add__") rfl)), by exact (He.eqO_ok (Y.chk 12 (b := He.eqO (PySem.W.findIn K (.ref (He.ga K "Ratio")) "__radd__") (some none)) rfl)), mro_ok (Y.chk 13 (b := mroB K (He.ga K "Ratio")) rfl), (of_decide_eq_true (Y.chk 14 (b := decide (PySem.W.subIn K (.type "int") (.ref (He.ga K "Ratio")) = some false)) rfl))⟩
theorem creadR (Y : HY K T h mg) : ClX.CRead K (aR K) (.type "type") := ⟨(Y.chk 16 (b := PySem.W.readsIn K (He.ga K "Ratio") (.type "type")) rfl), (He.eqO_ok (Y.chk 17 (b := He.eqO (PySem.W.specialIn K (.ref (He.ga K "Ratio")) "__getattribute__") (some (some (.builtin "type.__getattribute__")))) rfl))⟩
theorem d_is_integer (Y : HY K T h mg) : ∃ fd, FunD K "is_integer" "is_integer" (defArgs (tp 14)) (defBody (tp 14)) (defScope (tp 14)) [] [] (He.ga K "is_integer") fd ∧ Binds K fd ["value"] [] := by
  obtain ⟨fd, F⟩ : ∃ fd, FunD K "is_integer" "is_integer" (defArgs (tp 14)) (defBody (tp 14)) (defScope (tp 14)) [] [] (He.ga K "is_integer") fd := Y.D.def_ 3 rfl
  exact ⟨fd, F, F.bindsN fun _ _ _ _ _ _ us hl => match us, hl with | [_], _ => rfl⟩
theorem d_is_list (Y : HY K T h mg) : ∃ fd, FunD K "is_list" "is_list" (defArgs (tp 15)) (defBody (tp 15)) (defScope (tp 15)) [] [] (He.ga K "is_list") fd ∧ Binds K fd ["value"] [] := by
  obtain ⟨fd, F⟩ : ∃ fd, FunD K "is_list" "is_list" (defArgs (tp 15)) (defBody (tp 15)) (defScope (tp 15)) [] [] (He.ga K "is_list") fd := Y.D.def_ 4 rfl
  exact ⟨fd, F, F.bindsN fun _ _ _ _ _ _ us hl => match us, hl with | [_], _ => rfl⟩
theorem d_is_name (Y : HY K T h mg) : ∃ fd, FunD K "is_name" "is_name" (defArgs (tp 16)) (defBody (tp 16)) (defScope (tp 16)) [] [] (He.ga K "is_name") fd ∧ Binds K fd ["value"] [] := by
  obtain ⟨fd, F⟩ : ∃ fd, FunD K "is_name" "is_name" (defArgs (tp 16)) (defBody (tp 16)) (defScope (tp 16)) [] [] (He.ga K "is_name") fd := Y.D.def_ 5 rfl
  exact ⟨fd, F, F.bindsN fun _ _ _ _ _ _ us hl => match us, hl with | [_], _ => rfl⟩
theorem d__is_word (Y : HY K T h mg) : ∃ fd, FunD K "_is_word" "_is_word" (defArgs (tp 17)) (defBody (tp 17)) (defScope (tp 17)) [] [] (He.ga K "_is_word") fd ∧ Binds K fd ["text"] [] := by
  obtain ⟨fd, F⟩ : ∃ fd, FunD K "_is_word" "_is_word" (defArgs (tp 17)) (defBody (tp 17)) (defScope (tp 17)) [] [] (He.ga K "_is_word") fd := Y.D.def_ 6 rfl
  exact ⟨fd, F, F.bindsN fun _ _ _ _ _ _ us hl => match us, hl with | [_], _ => rfl⟩
theorem d_has_names (Y : HY K T h mg) : ∃ fd, FunD K "has_names" "has_names" (defArgs (tp 18)) (defBody (tp 18)) (defScope (tp 18)) [] [] (He.ga K "has_names") fd ∧ Binds K fd ["value"] [] := by
  obtain ⟨fd, F⟩ : ∃ fd, FunD K "has_names" "has_names" (defArgs (tp 18)) (defBody (tp 18)) (defScope (tp 18)) [] [] (He.ga K "has_names") fd := Y.D.def_ 7 rfl
  exact ⟨fd, F, F.bindsN fun _ _ _ _ _ _ us hl => match us, hl with | [_], _ => rfl⟩
theorem d_is_one_of (Y : HY K T h mg) : ∃ fd, FunD K "is_one_of" "is_one_of" (defArgs (tp 19)) (defBody (tp 19)) (defScope (tp 19)) [] [] (He.ga K "is_one_of") fd ∧ Binds K fd ["value", "names"] [] := by
  obtain ⟨fd, F⟩ : ∃ fd, FunD K "is_one_of" "is_one_of" (defArgs (tp 19)) (defBody (tp 19)) (defScope (tp 19)) [] [] (He.ga K "is_one_of") fd := Y.D.def_ 8 rfl
  exact ⟨fd, F, F.bindsN fun _ _ _ _ _ _ us hl => match us, hl with | [_, _], _ => rfl⟩
theorem d_is_number (Y : HY K T h mg) : ∃ fd, FunD K "is_number" "is_number" (defArgs (tp 21)) (defBody (tp 21)) (defScope (tp 21)) [] [] (He.ga K "is_number") fd ∧ Binds K fd ["value"] [] := by
  obtain ⟨fd, F⟩ : ∃ fd, FunD K "is_number" "is_number" (defArgs (tp 21)) (defBody (tp 21)) (defScope (tp 21)) [] [] (He.ga K "is_number") fd := Y.D.def_ 9 rfl
  exact ⟨fd, F, F.bindsN fun _ _ _ _ _ _ us hl => match us, hl with | [_], _ => rfl⟩
theorem d__check_divisor (Y : HY K T h mg) : ∃ fd, FunD K "_check_divisor" "_check_divisor" (defArgs (tp 26)) (defBody (tp 26)) (defScope (tp 26)) [] [] (He.ga K "_check_divisor") fd ∧ Binds K fd ["value"] [] := by
  obtain ⟨fd, F⟩ : ∃ fd, FunD K "_check_divisor" "_check_divisor" (defArgs (tp 26)) (defBody (tp 26)) (defScope (tp 26)) [] [] (He.ga K "_check_divisor") fd := Y.D.def_ 16 rfl
  exact ⟨fd, F, F.bindsN fun _ _ _ _ _ _ us hl => match us, hl with | [_], _ => rfl⟩
theorem d__check_part (Y : HY K T h mg) : ∃ fd, FunD K "_check_part" "_check_part" (defArgs (tp 27)) (defBody (tp 27)) (defScope (tp 27)) [] [] (He.ga K "_check_part") fd ∧ Binds K fd ["name", "value"] [] := by
  obtain ⟨fd, F⟩ : ∃ fd, FunD K "_check_part" "_check_part" (defArgs (tp 27)) (defBody (tp 27)) (defScope (tp 27)) [] [] (He.ga K "_check_part") fd := Y.D.def_ 17 rfl
  exact ⟨fd, F, F.bindsN fun _ _ _ _ _ _ us hl => match us, hl with | [_, _], _ => rfl⟩
theorem d__check_when (Y : HY K T h mg) : ∃ fd, FunD K "_check_when" "_check_when" (defArgs (tp 33)) (defBody (tp 33)) (defScope (tp 33)) [] [] (He.ga K "_check_when") fd ∧ Binds K fd ["when"] [] := by
  obtain ⟨fd, F⟩ : ∃ fd, FunD K "_check_when" "_check_when" (defArgs (tp 33)) (defBody (tp 33)) (defScope (tp 33)) [] [] (He.ga K "_check_when") fd := Y.D.def_ 21 rfl
  exact ⟨fd, F, F.bindsN fun _ _ _ _ _ _ us hl => match us, hl with | [_], _ => rfl⟩
theorem d__is_condition (Y : HY K T h mg) : ∃ fd, FunD K "_is_condition" "_is_condition" (defArgs (tp 34)) (defBody (tp 34)) (defScope (tp 34)) [] [] (He.ga K "_is_condition") fd ∧ Binds K fd ["value"] [] := by
  obtain ⟨fd, F⟩ : ∃ fd, FunD K "_is_condition" "_is_condition" (defArgs (tp 34)) (defBody (tp 34)) (defScope (tp 34)) [] [] (He.ga K "_is_condition") fd := Y.D.def_ 22 rfl
  exact ⟨fd, F, F.bindsN fun _ _ _ _ _ _ us hl => match us, hl with | [_], _ => rfl⟩
theorem d__check_moves (Y : HY K T h mg) : ∃ fd, FunD K "_check_moves" "_check_moves" (defArgs (tp 35)) (defBody (tp 35)) (defScope (tp 35)) [] [] (He.ga K "_check_moves") fd ∧ Binds K fd ["moves"] [] := by
  obtain ⟨fd, F⟩ : ∃ fd, FunD K "_check_moves" "_check_moves" (defArgs (tp 35)) (defBody (tp 35)) (defScope (tp 35)) [] [] (He.ga K "_check_moves") fd := Y.D.def_ 23 rfl
  exact ⟨fd, F, F.bindsN fun _ _ _ _ _ _ us hl => match us, hl with | [_], _ => rfl⟩
theorem d__law_pot (Y : HY K T h mg) : ∃ fd, FunD K "_law_pot" "_law_pot" (defArgs (tp 37)) (defBody (tp 37)) (defScope (tp 37)) [] [] (He.ga K "_law_pot") fd ∧ Binds K fd ["_law_script", "_law_index"] [] := by
  obtain ⟨fd, F⟩ : ∃ fd, FunD K "_law_pot" "_law_pot" (defArgs (tp 37)) (defBody (tp 37)) (defScope (tp 37)) [] [] (He.ga K "_law_pot") fd := Y.D.def_ 24 rfl
  exact ⟨fd, F, F.bindsN fun _ _ _ _ _ _ us hl => match us, hl with | [_, _], _ => rfl⟩
theorem d__law_draw (Y : HY K T h mg) : ∃ fd, FunD K "_law_draw" "_law_draw" (defArgs (tp 38)) (defBody (tp 38)) (defScope (tp 38)) [] [] (He.ga K "_law_draw") fd ∧ Binds K fd ["_law_pot_here", "_law_many"] [] := by
  obtain ⟨fd, F⟩ : ∃ fd, FunD K "_law_draw" "_law_draw" (defArgs (tp 38)) (defBody (tp 38)) (defScope (tp 38)) [] [] (He.ga K "_law_draw") fd := Y.D.def_ 25 rfl
  exact ⟨fd, F, F.bindsN fun _ _ _ _ _ _ us hl => match us, hl with | [_, _], _ => rfl⟩
theorem d__law_pick (Y : HY K T h mg) : ∃ fd, FunD K "_law_pick" "_law_pick" (defArgs (tp 39)) (defBody (tp 39)) (defScope (tp 39)) [] [] (He.ga K "_law_pick") fd ∧ Binds K fd ["_law_pot_here", "_law_some"] [] := by
  obtain ⟨fd, F⟩ : ∃ fd, FunD K "_law_pick" "_law_pick" (defArgs (tp 39)) (defBody (tp 39)) (defScope (tp 39)) [] [] (He.ga K "_law_pick") fd := Y.D.def_ 26 rfl
  exact ⟨fd, F, F.bindsN fun _ _ _ _ _ _ us hl => match us, hl with | [_, _], _ => rfl⟩
theorem d__law_told (Y : HY K T h mg) : ∃ fd, FunD K "_law_told" "_law_told" (defArgs (tp 40)) (defBody (tp 40)) (defScope (tp 40)) [] [] (He.ga K "_law_told") fd ∧ Binds K fd ["_law_call"] [] := by
  obtain ⟨fd, F⟩ : ∃ fd, FunD K "_law_told" "_law_told" (defArgs (tp 40)) (defBody (tp 40)) (defScope (tp 40)) [] [] (He.ga K "_law_told") fd := Y.D.def_ 27 rfl
  exact ⟨fd, F, F.bindsN fun _ _ _ _ _ _ us hl => match us, hl with | [_], _ => rfl⟩
theorem d__law_odd_name (Y : HY K T h mg) : ∃ fd, FunD K "_law_odd_name" "_law_odd_name" (defArgs (tp 41)) (defBody (tp 41)) (defScope (tp 41)) [] [] (He.ga K "_law_odd_name") fd ∧ Binds K fd ["_law_pot_here"] [] := by
  obtain ⟨fd, F⟩ : ∃ fd, FunD K "_law_odd_name" "_law_odd_name" (defArgs (tp 41)) (defBody (tp 41)) (defScope (tp 41)) [] [] (He.ga K "_law_odd_name") fd := Y.D.def_ 28 rfl
  exact ⟨fd, F, F.bindsN fun _ _ _ _ _ _ us hl => match us, hl with | [_], _ => rfl⟩
theorem d__law_odd_claims (Y : HY K T h mg) : ∃ fd, FunD K "_law_odd_claims" "_law_odd_claims" (defArgs (tp 42)) (defBody (tp 42)) (defScope (tp 42)) [] [] (He.ga K "_law_odd_claims") fd ∧ Binds K fd ["_law_pot_here"] [] := by
  obtain ⟨fd, F⟩ : ∃ fd, FunD K "_law_odd_claims" "_law_odd_claims" (defArgs (tp 42)) (defBody (tp 42)) (defScope (tp 42)) [] [] (He.ga K "_law_odd_claims") fd := Y.D.def_ 29 rfl
  exact ⟨fd, F, F.bindsN fun _ _ _ _ _ _ us hl => match us, hl with | [_], _ => rfl⟩
theorem d__law_odd_shifts (Y : HY K T h mg) : ∃ fd, FunD K "_law_odd_shifts" "_law_odd_shifts" (defArgs (tp 43)) (defBody (tp 43)) (defScope (tp 43)) [] [] (He.ga K "_law_odd_shifts") fd ∧ Binds K fd ["_law_pot_here"] [] := by
  obtain ⟨fd, F⟩ : ∃ fd, FunD K "_law_odd_shifts" "_law_odd_shifts" (defArgs (tp 43)) (defBody (tp 43)) (defScope (tp 43)) [] [] (He.ga K "_law_odd_shifts") fd := Y.D.def_ 30 rfl
  exact ⟨fd, F, F.bindsN fun _ _ _ _ _ _ us hl => match us, hl with | [_], _ => rfl⟩
theorem d__law_made (Y : HY K T h mg) : ∃ fd, FunD K "_law_made" "_law_made" (defArgs (tp 44)) (defBody (tp 44)) (defScope (tp 44)) [] [] (He.ga K "_law_made") fd ∧ Binds K fd ["_law_parts_now", "_law_due"] [] := by
  obtain ⟨fd, F⟩ : ∃ fd, FunD K "_law_made" "_law_made" (defArgs (tp 44)) (defBody (tp 44)) (defScope (tp 44)) [] [] (He.ga K "_law_made") fd := Y.D.def_ 31 rfl
  exact ⟨fd, F, F.bindsN fun _ _ _ _ _ _ us hl => match us, hl with | [_, _], _ => rfl⟩
theorem d__law_changes (Y : HY K T h mg) : ∃ fd, FunD K "_law_changes" "_law_changes" (defArgs (tp 45)) (defBody (tp 45)) (defScope (tp 45)) [] [] (He.ga K "_law_changes") fd ∧ Binds K fd ["_law_parts_now", "_law_due"] [] := by
  obtain ⟨fd, F⟩ : ∃ fd, FunD K "_law_changes" "_law_changes" (defArgs (tp 45)) (defBody (tp 45)) (defScope (tp 45)) [] [] (He.ga K "_law_changes") fd := Y.D.def_ 32 rfl
  exact ⟨fd, F, F.bindsN fun _ _ _ _ _ _ us hl => match us, hl with | [_, _], _ => rfl⟩
theorem d__law_refused (Y : HY K T h mg) : ∃ fd, FunD K "_law_refused" "_law_refused" (defArgs (tp 46)) (defBody (tp 46)) (defScope (tp 46)) [] [] (He.ga K "_law_refused") fd ∧ Binds K fd ["_law_pot_here"] [] := by
  obtain ⟨fd, F⟩ : ∃ fd, FunD K "_law_refused" "_law_refused" (defArgs (tp 46)) (defBody (tp 46)) (defScope (tp 46)) [] [] (He.ga K "_law_refused") fd := Y.D.def_ 33 rfl
  exact ⟨fd, F, F.bindsN fun _ _ _ _ _ _ us hl => match us, hl with | [_], _ => rfl⟩
theorem d__law_unknown_right (Y : HY K T h mg) : ∃ fd, FunD K "_law_unknown_right" "_law_unknown_right" (defArgs (tp 47)) (defBody (tp 47)) (defScope (tp 47)) [] [] (He.ga K "_law_unknown_right") fd ∧ Binds K fd [] [] := by
  obtain ⟨fd, F⟩ : ∃ fd, FunD K "_law_unknown_right" "_law_unknown_right" (defArgs (tp 47)) (defBody (tp 47)) (defScope (tp 47)) [] [] (He.ga K "_law_unknown_right") fd := Y.D.def_ 34 rfl
  exact ⟨fd, F, F.bindsN fun _ _ _ _ _ _ us hl => match us, hl with | [], _ => rfl⟩
theorem d__law_ninth_right (Y : HY K T h mg) : ∃ fd, FunD K "_law_ninth_right" "_law_ninth_right" (defArgs (tp 48)) (defBody (tp 48)) (defScope (tp 48)) [] [] (He.ga K "_law_ninth_right") fd ∧ Binds K fd [] [] := by
  obtain ⟨fd, F⟩ : ∃ fd, FunD K "_law_ninth_right" "_law_ninth_right" (defArgs (tp 48)) (defBody (tp 48)) (defScope (tp 48)) [] [] (He.ga K "_law_ninth_right") fd := Y.D.def_ 35 rfl
  exact ⟨fd, F, F.bindsN fun _ _ _ _ _ _ us hl => match us, hl with | [], _ => rfl⟩
theorem d__law_taken_right (Y : HY K T h mg) : ∃ fd, FunD K "_law_taken_right" "_law_taken_right" (defArgs (tp 49)) (defBody (tp 49)) (defScope (tp 49)) [] [] (He.ga K "_law_taken_right") fd ∧ Binds K fd [] [] := by
  obtain ⟨fd, F⟩ : ∃ fd, FunD K "_law_taken_right" "_law_taken_right" (defArgs (tp 49)) (defBody (tp 49)) (defScope (tp 49)) [] [] (He.ga K "_law_taken_right") fd := Y.D.def_ 36 rfl
  exact ⟨fd, F, F.bindsN fun _ _ _ _ _ _ us hl => match us, hl with | [], _ => rfl⟩
theorem d_law (Y : HY K T h mg) : ∃ fd, FunD K "law" "law" (defArgs (tp 50)) (defBody (tp 50)) (defScope (tp 50)) [] [] (He.ga K "law") fd ∧ Binds K fd ["_law_script"] [] := by
  obtain ⟨fd, F⟩ : ∃ fd, FunD K "law" "law" (defArgs (tp 50)) (defBody (tp 50)) (defScope (tp 50)) [] [] (He.ga K "law") fd := Y.D.def_ 37 rfl
  exact ⟨fd, F, F.bindsN fun _ _ _ _ _ _ us hl => match us, hl with | [_], _ => rfl⟩
theorem d_InvalidName_init (Y : HY K T h mg) : ∃ fd, FunD K "__init__" "InvalidName.__init__" (defArgs (inClass (tp 5) 0)) (defBody (inClass (tp 5) 0)) (defScope (inClass (tp 5) 0)) [] [] (He.ma K (aIA K) "__init__") fd ∧ Binds K fd ["self", "value"] [] := by
  obtain ⟨fd, F⟩ : ∃ fd, FunD K "__init__" "InvalidName.__init__" (defArgs (inClass (tp 5) 0)) (defBody (inClass (tp 5) 0)) (defScope (inClass (tp 5) 0)) [] [] (He.ma K (aIA K) "__init__") fd := Y.D.def_ 0 rfl
  exact ⟨fd, F, F.bindsN fun _ _ _ _ _ _ us hl => match us, hl with | [_, _], _ => rfl⟩
theorem d_InvalidRule_init (Y : HY K T h mg) : ∃ fd, FunD K "__init__" "InvalidRule.__init__" (defArgs (inClass (tp 7) 0)) (defBody (inClass (tp 7) 0)) (defScope (inClass (tp 7) 0)) [] [] (He.ma K (aIL K) "__init__") fd ∧ Binds K fd ["self", "part", "position"] [] := by
  obtain ⟨fd, F⟩ : ∃ fd, FunD K "__init__" "InvalidRule.__init__" (defArgs (inClass (tp 7) 0)) (defBody (inClass (tp 7) 0)) (defScope (inClass (tp 7) 0)) [] [] (He.ma K (aIL K) "__init__") fd := Y.D.def_ 1 rfl
  exact ⟨fd, F, F.bindsN fun _ _ _ _ _ _ us hl => match us, hl with | [_, _, _], _ => rfl⟩
theorem d_TooMany_init (Y : HY K T h mg) : ∃ fd, FunD K "__init__" "TooMany.__init__" (defArgs (inClass (tp 8) 0)) (defBody (inClass (tp 8) 0)) (defScope (inClass (tp 8) 0)) [] [] (He.ma K (aTM K) "__init__") fd ∧ Binds K fd ["self", "kind", "limit"] [] := by
  obtain ⟨fd, F⟩ : ∃ fd, FunD K "__init__" "TooMany.__init__" (defArgs (inClass (tp 8) 0)) (defBody (inClass (tp 8) 0)) (defScope (inClass (tp 8) 0)) [] [] (He.ma K (aTM K) "__init__") fd := Y.D.def_ 2 rfl
  exact ⟨fd, F, F.bindsN fun _ _ _ _ _ _ us hl => match us, hl with | [_, _, _], _ => rfl⟩
theorem d_Ratio_init (Y : HY K T h mg) : ∃ fd, FunD K "__init__" "Ratio.__init__" (defArgs (sRatio 0)) (defBody (sRatio 0)) (defScope (sRatio 0)) [.int 1] [] (He.ma K (aR K) "__init__") fd := Y.D.def_ 10 rfl
theorem d_Ratio_is_below (Y : HY K T h mg) : ∃ fd, FunD K "is_below" "Ratio.is_below" (defArgs (sRatio 7)) (defBody (sRatio 7)) (defScope (sRatio 7)) [] [] (He.ma K (aR K) "is_below") fd ∧ Binds K fd ["self", "other"] [] := by
  obtain ⟨fd, F⟩ : ∃ fd, FunD K "is_below" "Ratio.is_below" (defArgs (sRatio 7)) (defBody (sRatio 7)) (defScope (sRatio 7)) [] [] (He.ma K (aR K) "is_below") fd := Y.D.def_ 11 rfl
  exact ⟨fd, F, F.bindsN fun _ _ _ _ _ _ us hl => match us, hl with | [_, _], _ => rfl⟩
theorem d_Ratio_over (Y : HY K T h mg) : ∃ fd, FunD K "over" "Ratio.over" (defArgs (sRatio 8)) (defBody (sRatio 8)) (defScope (sRatio 8)) [] [] (He.ma K (aR K) "over") fd ∧ Binds K fd ["self", "other"] [] := by
  obtain ⟨fd, F⟩ : ∃ fd, FunD K "over" "Ratio.over" (defArgs (sRatio 8)) (defBody (sRatio 8)) (defScope (sRatio 8)) [] [] (He.ma K (aR K) "over") fd := Y.D.def_ 12 rfl
  exact ⟨fd, F, F.bindsN fun _ _ _ _ _ _ us hl => match us, hl with | [_, _], _ => rfl⟩
theorem d_Ratio_add (Y : HY K T h mg) : ∃ fd, FunD K "__add__" "Ratio.__add__" (defArgs (sRatio 9)) (defBody (sRatio 9)) (defScope (sRatio 9)) [] [] (He.ma K (aR K) "__add__") fd ∧ Binds K fd ["self", "other"] [] := by
  obtain ⟨fd, F⟩ : ∃ fd, FunD K "__add__" "Ratio.__add__" (defArgs (sRatio 9)) (defBody (sRatio 9)) (defScope (sRatio 9)) [] [] (He.ma K (aR K) "__add__") fd := Y.D.def_ 13 rfl
  exact ⟨fd, F, F.bindsN fun _ _ _ _ _ _ us hl => match us, hl with | [_, _], _ => rfl⟩
theorem d_Ratio_eq (Y : HY K T h mg) : ∃ fd, FunD K "__eq__" "Ratio.__eq__" (defArgs (sRatio 13)) (defBody (sRatio 13)) (defScope (sRatio 13)) [] [] (He.ma K (aR K) "__eq__") fd ∧ Binds K fd ["self", "other"] [] := by
  obtain ⟨fd, F⟩ : ∃ fd, FunD K "__eq__" "Ratio.__eq__" (defArgs (sRatio 13)) (defBody (sRatio 13)) (defScope (sRatio 13)) [] [] (He.ma K (aR K) "__eq__") fd := Y.D.def_ 14 rfl
  exact ⟨fd, F, F.bindsN fun _ _ _ _ _ _ us hl => match us, hl with | [_, _], _ => rfl⟩
theorem d_Move_init (Y : HY K T h mg) : ∃ fd, FunD K "__init__" "Move.__init__" (defArgs (sMove 0)) (defBody (sMove 0)) (defScope (sMove 0)) [] [] (He.ma K (aM K) "__init__") fd ∧ Binds K fd ["self", "divisor", "plus", "low", "high"] [] := by
  obtain ⟨fd, F⟩ : ∃ fd, FunD K "__init__" "Move.__init__" (defArgs (sMove 0)) (defBody (sMove 0)) (defScope (sMove 0)) [] [] (He.ma K (aM K) "__init__") fd := Y.D.def_ 15 rfl
  exact ⟨fd, F, F.bindsN fun _ _ _ _ _ _ us hl => match us, hl with | [_, _, _, _, _], _ => rfl⟩
theorem d_Rule_init (Y : HY K T h mg) : ∃ fd, FunD K "__init__" "Rule.__init__" (defArgs (sRule 0)) (defBody (sRule 0)) (defScope (sRule 0)) [] [("when", V.ref (kwAt "Rule" "__init__" "when" K)), ("moves", V.non)] (He.ma K (aRu K) "__init__") fd := Y.D.def_ 18 rfl
theorem d_Rule_changed (Y : HY K T h mg) : ∃ fd, FunD K "changed" "Rule.changed" (defArgs (sRule 6)) (defBody (sRule 6)) (defScope (sRule 6)) [] [] (He.ma K (aRu K) "changed") fd := Y.D.def_ 19 rfl
theorem d_Rule_eq (Y : HY K T h mg) : ∃ fd, FunD K "__eq__" "Rule.__eq__" (defArgs (sRule 7)) (defBody (sRule 7)) (defScope (sRule 7)) [] [] (He.ma K (aRu K) "__eq__") fd ∧ Binds K fd ["self", "other"] [] := by
  obtain ⟨fd, F⟩ : ∃ fd, FunD K "__eq__" "Rule.__eq__" (defArgs (sRule 7)) (defBody (sRule 7)) (defScope (sRule 7)) [] [] (He.ma K (aRu K) "__eq__") fd := Y.D.def_ 20 rfl
  exact ⟨fd, F, F.bindsN fun _ _ _ _ _ _ us hl => match us, hl with | [_, _], _ => rfl⟩
theorem d_Ratio_of (Y : HY K T h mg) : ∃ fd, FunD K "of" "Ratio.of" (defArgs (sRatio 1)) (defBody (sRatio 1)) (defScope (sRatio 1)) [] [] (wrapAt K (aR K) "of" "classmethod") fd ∧ Binds K fd ["cls", "number"] [] := by
  obtain ⟨fd, F⟩ : ∃ fd, FunD K "of" "Ratio.of" (defArgs (sRatio 1)) (defBody (sRatio 1)) (defScope (sRatio 1)) [] [] (wrapAt K (aR K) "of" "classmethod") fd := Y.Dx.def_ 0 rfl
  exact ⟨fd, F, F.bindsN fun _ _ _ _ _ _ us hl => match us, hl with | [_, _], _ => rfl⟩
end
def lamT (K : PySem.W.Frag) : List (Addr × Str) := [(tabAt K (codeAt K (He.ga K "_law_made")), lamMade), (tabAt K (codeAt K (He.ga K "_law_changes")), lamChanges), (tabAt K (codeAt K (He.ga K "_law_unknown_right")), lamUnknown), (tabAt K (codeAt K (He.ga K "_law_ninth_right")), lamNinth), (tabAt K (codeAt K (He.ga K "_law_taken_right")), lamTaken)]
end K18
set_option maxHeartbeats 0
namespace K18
open PySem PySem.Spec PyProof.Rows L2 GL
theorem facts {P : Program} {w : World} {K T : PySem.W.Frag} {h : Heap} {mg : Str → Option Value} {f : Addr} (Y : HY K T h mg) (hfa : mg ("law" : Str) = some (.ref f)) :
    ∃ fd : FuncData, (∀ (s : Shared) (v : Value), BindsTo s fd ⟨[v], []⟩ [("_law_script", v)]) ∧ ∀ base : Heap, K.In base → base.Ns mainGlobals mg → (∀ x ∈ (lamF K).map (fun f => (codeAt K f, tabAt K (codeAt K f))), LamX.TabB base mg x.1 x.2) →
      FnG P w K mg base CX0 12 f fd ["_law_script"] (spLaw K (lamT K)) := by
  have T_ := rf Y
  have TM := mf Y
  have UFx := uf Y
  have NFx := nf Y
  have FR := free_ Y
  have ZE := ef Y
  have NoRx := nor Y
  have NoMx := nom Y
  have tabs := List.all_eq_true.mp Y.tab
  obtain ⟨td0, _⟩ := He.ba (tabs (He.ga K "_law_made") List.mem_cons_self)
  obtain ⟨_, _, hcode0⟩ := codeB_ok Y.X td0
  obtain ⟨td1, _⟩ := He.ba (tabs (He.ga K "_law_changes") (List.mem_cons_of_mem _ List.mem_cons_self))
  obtain ⟨_, _, hcode1⟩ := codeB_ok Y.X td1
  obtain ⟨td2, _⟩ := He.ba (tabs (He.ga K "_law_unknown_right") (List.mem_cons_of_mem _ (List.mem_cons_of_mem _ List.mem_cons_self)))
  obtain ⟨_, _, hcode2⟩ := codeB_ok Y.X td2
  obtain ⟨td3, _⟩ := He.ba (tabs (He.ga K "_law_ninth_right") (List.mem_cons_of_mem _ (List.mem_cons_of_mem _ (List.mem_cons_of_mem _ List.mem_cons_self))))
  obtain ⟨_, _, hcode3⟩ := codeB_ok Y.X td3
  obtain ⟨td4, _⟩ := He.ba (tabs (He.ga K "_law_taken_right") (List.mem_cons_of_mem _ (List.mem_cons_of_mem _ (List.mem_cons_of_mem _ (List.mem_cons_of_mem _ List.mem_cons_self)))))
  obtain ⟨_, _, hcode4⟩ := codeB_ok Y.X td4
  obtain ⟨fd_is_integer, D_is_integer, b_is_integer⟩ := d_is_integer Y
  have F_is_integer := fun_of (st := tp 14) D_is_integer
  have g_is_integer : mg "is_integer" = some (.ref (He.ga K "is_integer")) := (He.glo_ok Y.X Y.G (Y.D.fact 4 (f := .glo "is_integer") rfl))
  obtain ⟨fd_is_list, D_is_list, b_is_list⟩ := d_is_list Y
  have F_is_list := fun_of (st := tp 15) D_is_list
  have g_is_list : mg "is_list" = some (.ref (He.ga K "is_list")) := (He.glo_ok Y.X Y.G (Y.D.fact 5 (f := .glo "is_list") rfl))
  obtain ⟨fd_is_name, D_is_name, b_is_name⟩ := d_is_name Y
  have F_is_name := fun_of (st := tp 16) D_is_name
  have g_is_name : mg "is_name" = some (.ref (He.ga K "is_name")) := (He.glo_ok Y.X Y.G (Y.D.fact 6 (f := .glo "is_name") rfl))
  obtain ⟨fd_is_word, D_is_word, b_is_word⟩ := d__is_word Y
  have F_is_word := fun_of (st := tp 17) D_is_word
  have g_is_word : mg "_is_word" = some (.ref (He.ga K "_is_word")) := (He.glo_ok Y.X Y.G (Y.D.fact 7 (f := .glo "_is_word") rfl))
  obtain ⟨fd_has_names, D_has_names, b_has_names⟩ := d_has_names Y
  have F_has_names := fun_of (st := tp 18) D_has_names
  have g_has_names : mg "has_names" = some (.ref (He.ga K "has_names")) := (He.glo_ok Y.X Y.G (Y.D.fact 8 (f := .glo "has_names") rfl))
  obtain ⟨fd_is_one_of, D_is_one_of, b_is_one_of⟩ := d_is_one_of Y
  have F_is_one_of := fun_of (st := tp 19) D_is_one_of
  have g_is_one_of : mg "is_one_of" = some (.ref (He.ga K "is_one_of")) := (He.glo_ok Y.X Y.G (Y.D.fact 9 (f := .glo "is_one_of") rfl))
  obtain ⟨fd_is_number, D_is_number, b_is_number⟩ := d_is_number Y
  have F_is_number := fun_of (st := tp 21) D_is_number
  have g_is_number : mg "is_number" = some (.ref (He.ga K "is_number")) := (He.glo_ok Y.X Y.G (Y.D.fact 10 (f := .glo "is_number") rfl))
  obtain ⟨fd_check_divisor, D_check_divisor, b_check_divisor⟩ := d__check_divisor Y
  have F_check_divisor := fun_of (st := tp 26) D_check_divisor
  have g_check_divisor : mg "_check_divisor" = some (.ref (He.ga K "_check_divisor")) := (He.glo_ok Y.X Y.G (Y.D.fact 13 (f := .glo "_check_divisor") rfl))
  obtain ⟨fd_check_part, D_check_part, b_check_part⟩ := d__check_part Y
  have F_check_part := fun_of (st := tp 27) D_check_part
  have g_check_part : mg "_check_part" = some (.ref (He.ga K "_check_part")) := (He.glo_ok Y.X Y.G (Y.D.fact 14 (f := .glo "_check_part") rfl))
  obtain ⟨fd_check_when, D_check_when, b_check_when⟩ := d__check_when Y
  have F_check_when := fun_of (st := tp 33) D_check_when
  have g_check_when : mg "_check_when" = some (.ref (He.ga K "_check_when")) := (He.glo_ok Y.X Y.G (Y.D.fact 18 (f := .glo "_check_when") rfl))
  obtain ⟨fd_is_condition, D_is_condition, b_is_condition⟩ := d__is_condition Y
  have F_is_condition := fun_of (st := tp 34) D_is_condition
  have g_is_condition : mg "_is_condition" = some (.ref (He.ga K "_is_condition")) := (He.glo_ok Y.X Y.G (Y.D.fact 19 (f := .glo "_is_condition") rfl))
  obtain ⟨fd_check_moves, D_check_moves, b_check_moves⟩ := d__check_moves Y
  have F_check_moves := fun_of (st := tp 35) D_check_moves
  have g_check_moves : mg "_check_moves" = some (.ref (He.ga K "_check_moves")) := (He.glo_ok Y.X Y.G (Y.D.fact 20 (f := .glo "_check_moves") rfl))
  obtain ⟨fd_lpot, D_lpot, b_lpot⟩ := d__law_pot Y
  have F_lpot := fun_of (st := tp 37) D_lpot
  have g_lpot : mg "_law_pot" = some (.ref (He.ga K "_law_pot")) := (He.glo_ok Y.X Y.G (Y.D.fact 21 (f := .glo "_law_pot") rfl))
  obtain ⟨fd_ldraw, D_ldraw, b_ldraw⟩ := d__law_draw Y
  have F_ldraw := fun_of (st := tp 38) D_ldraw
  have g_ldraw : mg "_law_draw" = some (.ref (He.ga K "_law_draw")) := (He.glo_ok Y.X Y.G (Y.D.fact 22 (f := .glo "_law_draw") rfl))
  obtain ⟨fd_lpick, D_lpick, b_lpick⟩ := d__law_pick Y
  have F_lpick := fun_of (st := tp 39) D_lpick
  have g_lpick : mg "_law_pick" = some (.ref (He.ga K "_law_pick")) := (He.glo_ok Y.X Y.G (Y.D.fact 23 (f := .glo "_law_pick") rfl))
  obtain ⟨fd_ltold, D_ltold, b_ltold⟩ := d__law_told Y
  have F_ltold := fun_of (st := tp 40) D_ltold
  have g_ltold : mg "_law_told" = some (.ref (He.ga K "_law_told")) := (He.glo_ok Y.X Y.G (Y.D.fact 24 (f := .glo "_law_told") rfl))
  obtain ⟨fd_lodd_name, D_lodd_name, b_lodd_name⟩ := d__law_odd_name Y
  have F_lodd_name := fun_of (st := tp 41) D_lodd_name
  have g_lodd_name : mg "_law_odd_name" = some (.ref (He.ga K "_law_odd_name")) := (He.glo_ok Y.X Y.G (Y.D.fact 25 (f := .glo "_law_odd_name") rfl))
  obtain ⟨fd_lodd_claims, D_lodd_claims, b_lodd_claims⟩ := d__law_odd_claims Y
  have F_lodd_claims := fun_of (st := tp 42) D_lodd_claims
  have g_lodd_claims : mg "_law_odd_claims" = some (.ref (He.ga K "_law_odd_claims")) := (He.glo_ok Y.X Y.G (Y.D.fact 26 (f := .glo "_law_odd_claims") rfl))
  obtain ⟨fd_lodd_shifts, D_lodd_shifts, b_lodd_shifts⟩ := d__law_odd_shifts Y
  have F_lodd_shifts := fun_of (st := tp 43) D_lodd_shifts
  have g_lodd_shifts : mg "_law_odd_shifts" = some (.ref (He.ga K "_law_odd_shifts")) := (He.glo_ok Y.X Y.G (Y.D.fact 27 (f := .glo "_law_odd_shifts") rfl))
  obtain ⟨fd_lmade, D_lmade, b_lmade⟩ := d__law_made Y
  have F_lmade := fun_of (st := tp 44) D_lmade
  have g_lmade : mg "_law_made" = some (.ref (He.ga K "_law_made")) := (He.glo_ok Y.X Y.G (Y.D.fact 28 (f := .glo "_law_made") rfl))
  obtain ⟨fd_lchanges, D_lchanges, b_lchanges⟩ := d__law_changes Y
  have F_lchanges := fun_of (st := tp 45) D_lchanges
  have g_lchanges : mg "_law_changes" = some (.ref (He.ga K "_law_changes")) := (He.glo_ok Y.X Y.G (Y.D.fact 29 (f := .glo "_law_changes") rfl))
  obtain ⟨fd_lrefused, D_lrefused, b_lrefused⟩ := d__law_refused Y
  have F_lrefused := fun_of (st := tp 46) D_lrefused
  have g_lrefused : mg "_law_refused" = some (.ref (He.ga K "_law_refused")) := (He.glo_ok Y.X Y.G (Y.D.fact 30 (f := .glo "_law_refused") rfl))
  obtain ⟨fd_lunknown_right, D_lunknown_right, b_lunknown_right⟩ := d__law_unknown_right Y
  have F_lunknown_right := fun_of (st := tp 47) D_lunknown_right
  have g_lunknown_right : mg "_law_unknown_right" = some (.ref (He.ga K "_law_unknown_right")) := (He.glo_ok Y.X Y.G (Y.D.fact 31 (f := .glo "_law_unknown_right") rfl))
  obtain ⟨fd_lninth_right, D_lninth_right, b_lninth_right⟩ := d__law_ninth_right Y
  have F_lninth_right := fun_of (st := tp 48) D_lninth_right
  have g_lninth_right : mg "_law_ninth_right" = some (.ref (He.ga K "_law_ninth_right")) := (He.glo_ok Y.X Y.G (Y.D.fact 32 (f := .glo "_law_ninth_right") rfl))
  obtain ⟨fd_ltaken_right, D_ltaken_right, b_ltaken_right⟩ := d__law_taken_right Y
  have F_ltaken_right := fun_of (st := tp 49) D_ltaken_right
  have g_ltaken_right : mg "_law_taken_right" = some (.ref (He.ga K "_law_taken_right")) := (He.glo_ok Y.X Y.G (Y.D.fact 33 (f := .glo "_law_taken_right") rfl))
  obtain ⟨fd_law, D_law, b_law⟩ := d_law Y
  have F_law := fun_of (st := tp 50) D_law
  have g_law : mg "law" = some (.ref (He.ga K "law")) := (He.glo_ok Y.X Y.G (Y.D.fact 34 (f := .glo "law") rfl))
  obtain ⟨fd_InvalidName_init, F_InvalidName_init, b_InvalidName_init⟩ := d_InvalidName_init Y
  obtain ⟨fd_InvalidRule_init, F_InvalidRule_init, b_InvalidRule_init⟩ := d_InvalidRule_init Y
  obtain ⟨fd_TooMany_init, F_TooMany_init, b_TooMany_init⟩ := d_TooMany_init Y
  obtain ⟨fd_Ratio_init, F_Ratio_init⟩ := d_Ratio_init Y
  obtain ⟨fd_Ratio_is_below, F_Ratio_is_below, b_Ratio_is_below⟩ := d_Ratio_is_below Y
  obtain ⟨fd_Ratio_over, F_Ratio_over, b_Ratio_over⟩ := d_Ratio_over Y
  obtain ⟨fd_Ratio_add, F_Ratio_add, b_Ratio_add⟩ := d_Ratio_add Y
  obtain ⟨fd_Ratio_eq, F_Ratio_eq, b_Ratio_eq⟩ := d_Ratio_eq Y
  obtain ⟨fd_Move_init, F_Move_init, b_Move_init⟩ := d_Move_init Y
  obtain ⟨fd_Rule_init, F_Rule_init⟩ := d_Rule_init Y
  obtain ⟨fd_Rule_changed, F_Rule_changed⟩ := d_Rule_changed Y
  obtain ⟨fd_Rule_eq, F_Rule_eq, b_Rule_eq⟩ := d_Rule_eq Y
  obtain ⟨fd_Ratio_of, F_Ratio_of, b_Ratio_of⟩ := d_Ratio_of Y
  obtain ⟨dI, vI, bI, bI0⟩ := rInit_binds F_Ratio_init
  have e := hfa.symm.trans g_law
  cases e

  have hc0 : fd_lmade.code = .ref (codeAt K (He.ga K "_law_made")) := by
    obtain ⟨oc, od, kV, doc, pm, an, cdv, ct, osl, e1, lk, _⟩ := F_lmade.ex
    exact hcode0 _ _ _ _ lk
  have hc1 : fd_lchanges.code = .ref (codeAt K (He.ga K "_law_changes")) := by
    obtain ⟨oc, od, kV, doc, pm, an, cdv, ct, osl, e1, lk, _⟩ := F_lchanges.ex
    exact hcode1 _ _ _ _ lk
  have hc2 : fd_lunknown_right.code = .ref (codeAt K (He.ga K "_law_unknown_right")) := by
    obtain ⟨oc, od, kV, doc, pm, an, cdv, ct, osl, e1, lk, _⟩ := F_lunknown_right.ex
    exact hcode2 _ _ _ _ lk
  have hc3 : fd_lninth_right.code = .ref (codeAt K (He.ga K "_law_ninth_right")) := by
    obtain ⟨oc, od, kV, doc, pm, an, cdv, ct, osl, e1, lk, _⟩ := F_lninth_right.ex
    exact hcode3 _ _ _ _ lk
  have hc4 : fd_ltaken_right.code = .ref (codeAt K (He.ga K "_law_taken_right")) := by
    obtain ⟨oc, od, kV, doc, pm, an, cdv, ct, osl, e1, lk, _⟩ := F_ltaken_right.ex
    exact hcode4 _ _ _ _ lk
  have nt01 : tabAt K (codeAt K (He.ga K "_law_made")) ≠ tabAt K (codeAt K (He.ga K "_law_changes")) := by simpa using (Y.chk 56 (b := !(tabAt K (codeAt K (He.ga K "_law_made")) == tabAt K (codeAt K (He.ga K "_law_changes")))) rfl)
  have nt02 : tabAt K (codeAt K (He.ga K "_law_made")) ≠ tabAt K (codeAt K (He.ga K "_law_unknown_right")) := by simpa using (Y.chk 57 (b := !(tabAt K (codeAt K (He.ga K "_law_made")) == tabAt K (codeAt K (He.ga K "_law_unknown_right")))) rfl)
  have nt03 : tabAt K (codeAt K (He.ga K "_law_made")) ≠ tabAt K (codeAt K (He.ga K "_law_ninth_right")) := by simpa using (Y.chk 58 (b := !(tabAt K (codeAt K (He.ga K "_law_made")) == tabAt K (codeAt K (He.ga K "_law_ninth_right")))) rfl)
  have nt04 : tabAt K (codeAt K (He.ga K "_law_made")) ≠ tabAt K (codeAt K (He.ga K "_law_taken_right")) := by simpa using (Y.chk 59 (b := !(tabAt K (codeAt K (He.ga K "_law_made")) == tabAt K (codeAt K (He.ga K "_law_taken_right")))) rfl)
  have nt12 : tabAt K (codeAt K (He.ga K "_law_changes")) ≠ tabAt K (codeAt K (He.ga K "_law_unknown_right")) := by simpa using (Y.chk 60 (b := !(tabAt K (codeAt K (He.ga K "_law_changes")) == tabAt K (codeAt K (He.ga K "_law_unknown_right")))) rfl)
  have nt13 : tabAt K (codeAt K (He.ga K "_law_changes")) ≠ tabAt K (codeAt K (He.ga K "_law_ninth_right")) := by simpa using (Y.chk 61 (b := !(tabAt K (codeAt K (He.ga K "_law_changes")) == tabAt K (codeAt K (He.ga K "_law_ninth_right")))) rfl)
  have nt14 : tabAt K (codeAt K (He.ga K "_law_changes")) ≠ tabAt K (codeAt K (He.ga K "_law_taken_right")) := by simpa using (Y.chk 62 (b := !(tabAt K (codeAt K (He.ga K "_law_changes")) == tabAt K (codeAt K (He.ga K "_law_taken_right")))) rfl)
  have nt23 : tabAt K (codeAt K (He.ga K "_law_unknown_right")) ≠ tabAt K (codeAt K (He.ga K "_law_ninth_right")) := by simpa using (Y.chk 63 (b := !(tabAt K (codeAt K (He.ga K "_law_unknown_right")) == tabAt K (codeAt K (He.ga K "_law_ninth_right")))) rfl)
  have nt24 : tabAt K (codeAt K (He.ga K "_law_unknown_right")) ≠ tabAt K (codeAt K (He.ga K "_law_taken_right")) := by simpa using (Y.chk 64 (b := !(tabAt K (codeAt K (He.ga K "_law_unknown_right")) == tabAt K (codeAt K (He.ga K "_law_taken_right")))) rfl)
  have nt34 : tabAt K (codeAt K (He.ga K "_law_ninth_right")) ≠ tabAt K (codeAt K (He.ga K "_law_taken_right")) := by simpa using (Y.chk 65 (b := !(tabAt K (codeAt K (He.ga K "_law_ninth_right")) == tabAt K (codeAt K (He.ga K "_law_taken_right")))) rfl)
  obtain ⟨gU2, KB2⟩ := rule_kb2 F_Rule_init
  obtain ⟨gU1, KB1⟩ := rule_kb1 F_Rule_init
  obtain ⟨gU0, KB0⟩ := rule_kb0 F_Rule_init
  refine ⟨fd_law, fun s v => ?_, fun base _ _ TBs => ?_⟩
  · exact FunD.bindsA (ps := ["_law_script"]) D_law (fun _ _ _ _ _ _ us hl => match us, hl with | [_], _ => rfl) s [v] rfl
  · have OI : FnOk P w K mg base CX0 1 _ fd_is_integer ["value"] (spIsInt K) := ok_isInt F_is_integer T_
    have ORI : FnOk P w K mg base CX0 2 _ fd_Ratio_init ["self", "top", "bottom"] (spRInit K) := ok_rInit F_Ratio_init T_ F_is_integer g_is_integer b_is_integer (PySem.W.mg_of Y.X Y.G (He.eqO_ok (Y.chk 18 (b := He.eqO (PySem.W.nsIn K mainGlobals "gcd") (some (some (.builtin "math.gcd")))) rfl)))
    have G : RG P w K mg base := ⟨T_, (of_decide_eq_true (Y.chk 11 (b := decide (PySem.W.kitOne K (.type "int") (.ref (He.ga K "Ratio")) = some false)) rfl)), ⟨_, _, OI, g_is_integer, b_is_integer, D_is_integer.kp⟩, ⟨_, _, dI, (He.mkr_ok (Y.D.fact 60 (f := .mkr "Ratio") rfl)), ORI, vI, bI, bI0⟩⟩
    have OOf : FnOk P w K mg base CX0 4 _ fd_Ratio_of ["cls", "number"] (spOf K) := ok_of F_Ratio_of G
    have Rh : RH P w K mg base := ⟨G, ⟨_, _, _, creadR Y, cmetB_ok (Y.chk 15 (b := cmetB K (He.ga K "Ratio") (.type "type") "of") rfl), toR OOf b_Ratio_of⟩⟩
    have OBl : FnOk P w K mg base CX0 5 _ fd_Ratio_is_below ["self", "other"] (spBelow K) := ok_below F_Ratio_is_below Rh
    have OOv : FnOk P w K mg base CX0 5 _ fd_Ratio_over ["self", "other"] (spBin K rOver fun _ r => r.num ≠ 0) := ok_over F_Ratio_over Rh
    have OAd : FnOk P w K mg base CX0 5 _ fd_Ratio_add ["self", "other"] (spBin K rAdd fun _ _ => True) := ok_rAdd F_Ratio_add Rh
    have OEq : FnOk P w K mg base CX0 1 _ fd_Ratio_eq ["self", "other"] (spREq K) := ok_rEq F_Ratio_eq T_
    have OIn : FnOk P w K mg base CX0 2 _ fd_is_number ["value"] (spIsNum K) := ok_isNum F_is_number T_ F_is_integer g_is_integer b_is_integer (of_decide_eq_true (Y.chk 11 (b := decide (PySem.W.kitOne K (.type "int") (.ref (He.ga K "Ratio")) = some false)) rfl))
    have I : RI P w K mg base := ⟨Rh, ⟨_, _, OIn, g_is_number, b_is_number, D_is_number.kp⟩, ⟨_, _, (He.meth_ok (Y.D.fact 73 (f := .meth "Ratio" "is_below") rfl)), OBl, b_Ratio_is_below⟩, ⟨_, ⟨(He.meth_ok (Y.D.fact 76 (f := .meth "Ratio" "__eq__") rfl)), (He.eqO_ok (Y.chk 4 (b := He.eqO (PySem.W.findIn K (.ref (He.ga K "Ratio")) "__ne__") (some (some (.builtin "object.__ne__")))) rfl)), (of_decide_eq_true (Y.chk 3 (b := decide (PySem.W.mroIn K (He.ga K "Ratio") (.type "object") = some true)) rfl))⟩, toR OEq b_Ratio_eq⟩, FR.len, (He.free_ok Y.X Y.G (Y.D.fact 50 (f := .free "tuple") rfl))⟩
    have J : RJ P w K mg base := ⟨I⟩
    have C : RK P w K mg base := ⟨J, ⟨_, own_add Y, toR OAd b_Ratio_add⟩, ⟨_, _, (He.meth_ok (Y.D.fact 74 (f := .meth "Ratio" "over") rfl)), OOv, b_Ratio_over⟩⟩
    have L : RL P w K mg base := ⟨C⟩
    have OCD : FnOk P w K mg base CX0 2 _ fd_check_divisor ["value"] spChkDiv := ok_chkDiv F_check_divisor G
    have OCP : FnOk P w K mg base CX0 3 _ fd_check_part ["name", "value"] (spChkPart K) := ok_chkPart F_check_part I
    have M : RM P w K mg base := ⟨L, TM, ⟨_, _, OCD, g_check_divisor, b_check_divisor, D_check_divisor.kp⟩, ⟨_, _, OCP, g_check_part, b_check_part, D_check_part.kp⟩⟩
    have OMI : FnOk P w K mg base CX0 6 _ fd_Move_init ["self", "divisor", "plus", "low", "high"] (spMInit K) := ok_mInit F_Move_init M
    have MkMx : MkM P w K mg base := ⟨TM, ⟨_, _, (He.mkr_ok (Y.D.fact 66 (f := .mkr "Move") rfl)), OMI, b_Move_init⟩⟩
    have OWd : FnOk P w K mg base CX0 1 _ fd_is_word ["text"] spWord := ok_word F_is_word NFx
    have ONm : FnOk P w K mg base CX0 2 _ fd_is_name ["value"] (spName K) := ok_name F_is_name NFx ⟨_, _, OWd, g_is_word, b_is_word, D_is_word.kp⟩
    have OIl : FnOk P w K mg base CX0 1 _ fd_is_list ["value"] (spIsList K) := ok_isList F_is_list NFx
    have OOo : FnOk P w K mg base CX0 1 _ fd_is_one_of ["value", "names"] (spOneOf K) := ok_oneOf F_is_one_of NFx
    have OHn : FnOk P w K mg base CX0 3 _ fd_has_names ["value"] (spHasNames K) := ok_hasNames F_has_names NFx ⟨_, _, ONm, g_is_name, b_is_name, D_is_name.kp⟩
    have ONu : FnOk P w K mg base CX0 2 _ fd_is_number ["value"] (spNumB K) := ok_numB OIn (ok_numX F_is_number G)
    have CFx : CF P w K mg base := ⟨NFx, ⟨_, _, ONm, g_is_name, b_is_name, D_is_name.kp⟩, ⟨_, _, OOo, g_is_one_of, b_is_one_of, D_is_one_of.kp⟩, ⟨_, _, ONu, g_is_number, b_is_number, D_is_number.kp⟩, ⟨He.ga K "SIDES", (He.glo_ok Y.X Y.G (Y.D.fact 15 (f := .glo "SIDES") rfl)), fun H => He.tupB_ok (Y.chk 53 (b := He.tupB K "SIDES" [.str "from", .str "above", .str "to", .str "below"]) rfl) H⟩⟩
    have OCo : FnOk P w K mg base CX0 3 _ fd_is_condition ["value"] (spCond K) := ok_cond F_is_condition CFx
    have OEA : FnOk P w K mg base CX0 1 _ fd_InvalidName_init ["self", "value"] (spInit (aIA K) ["value"]) := ok_init1 (fun_of (st := inClass (tp 5) 0) F_InvalidName_init) ZE.xA ZE.nAv rfl ⟨rfl, rfl, rfl, by decide +kernel, rfl, by decide +kernel, by decide +kernel⟩ rfl rfl (by decide) (by decide)
    have OEL : FnOk P w K mg base CX0 1 _ fd_InvalidRule_init ["self", "part", "position"] (spInit (aIL K) ["part", "position"]) := ok_init2 (fun_of (st := inClass (tp 7) 0) F_InvalidRule_init) ZE.xL ZE.nLp ZE.nLq rfl ⟨rfl, rfl, rfl, by decide +kernel, rfl, by decide +kernel, by decide +kernel⟩ rfl rfl rfl (by decide) (by decide) (by decide) (by decide)
    have OET : FnOk P w K mg base CX0 1 _ fd_TooMany_init ["self", "kind", "limit"] (spInit (aTM K) ["kind", "limit"]) := ok_init2 (fun_of (st := inClass (tp 8) 0) F_TooMany_init) ZE.xT ZE.nTk ZE.nTl rfl ⟨rfl, rfl, rfl, by decide +kernel, rfl, by decide +kernel, by decide +kernel⟩ rfl rfl rfl (by decide) (by decide) (by decide) (by decide)
    have EMx : EM P w K mg base := ⟨ZE.xA, ZE.xL, ZE.xT, ZE.gA, ZE.gL, ZE.gT, ⟨_, _, (He.eqO_ok (Y.chk 21 (b := He.eqO (PySem.W.findIn K (.ref (He.ga K "InvalidName")) "__init__") (some (some (.ref (He.ma K (He.ga K "InvalidName") "__init__"))))) rfl)), (of_decide_eq_true (Y.chk 22 (b := decide (PySem.W.typeIn K (.ref (He.ma K (He.ga K "InvalidName") "__init__")) = some (.type "function"))) rfl)), OEA, b_InvalidName_init⟩, ⟨_, _, (He.eqO_ok (Y.chk 27 (b := He.eqO (PySem.W.findIn K (.ref (He.ga K "InvalidRule")) "__init__") (some (some (.ref (He.ma K (He.ga K "InvalidRule") "__init__"))))) rfl)), (of_decide_eq_true (Y.chk 28 (b := decide (PySem.W.typeIn K (.ref (He.ma K (He.ga K "InvalidRule") "__init__")) = some (.type "function"))) rfl)), OEL, b_InvalidRule_init⟩, ⟨_, _, (He.eqO_ok (Y.chk 33 (b := He.eqO (PySem.W.findIn K (.ref (He.ga K "TooMany")) "__init__") (some (some (.ref (He.ma K (He.ga K "TooMany") "__init__"))))) rfl)), (of_decide_eq_true (Y.chk 34 (b := decide (PySem.W.typeIn K (.ref (He.ma K (He.ga K "TooMany") "__init__")) = some (.type "function"))) rfl)), OET, b_TooMany_init⟩⟩
    have OCW : FnOk P w K mg base (L2.CX P w) 4 _ fd_check_when ["when"] (spChkWhen K) := ok_chkWhen F_check_when ⟨_, _, OIl, g_is_list, b_is_list, D_is_list.kp⟩ ⟨_, _, OCo, g_is_condition, b_is_condition, D_is_condition.kp⟩ (He.free_ok Y.X Y.G (Y.D.fact 55 (f := .free "enumerate") rfl)) EMx
    have OCM : FnOk P w K mg base (L2.CX P w) 4 _ fd_check_moves ["moves"] (spChkMoves K) := ok_chkMoves F_check_moves ⟨_, _, OHn, g_has_names, b_has_names, D_has_names.kp⟩ (He.free_ok Y.X Y.G (Y.D.fact 54 (f := .free "sorted") rfl)) (He.glo_ok Y.X Y.G (Y.D.fact 12 (f := .glo "Move") rfl)) NFx EMx
    have RUx : RU P w K mg base := ⟨Rh, NFx, UFx, EMx, ⟨_, _, ONm, g_is_name, b_is_name, D_is_name.kp⟩, ⟨_, _, OCW, g_check_when, b_check_when, D_check_when.kp⟩, ⟨_, _, OCM, g_check_moves, b_check_moves, D_check_moves.kp⟩, (He.free_ok Y.X Y.G (Y.D.fact 54 (f := .free "sorted") rfl)), (by obtain ⟨t, e⟩ := He.int_ok Y.X Y.G (Y.D.fact 36 (f := .int "MOST_CONDITIONS" 8) rfl); exact ⟨_, e, t, rfl⟩)⟩
    have ORu : FnOk P w K mg base (L2.CX P w) 5 _ fd_Rule_init ["self", "goal", "answer", "when", "moves"] (spRuleI K) := ok_ruleI F_Rule_init RUx
    have CHx : CH P w K mg base := ⟨RUx, ⟨He.ga K "PARTS", (He.glo_ok Y.X Y.G (Y.D.fact 16 (f := .glo "PARTS") rfl)), fun H => He.tupB_ok (Y.chk 54 (b := He.tupB K "PARTS" [.str "goal", .str "answer", .str "when", .str "moves"]) rfl) H⟩, ⟨_, _, gU2, (He.mkr_ok (Y.D.fact 72 (f := .mkr "Rule") rfl)), ORu, KB2⟩⟩
    have OCh : FnK P w K mg base (L2.CX P w) 7 _ "self" (spChanged K) := ok_changed F_Rule_changed CHx
    have UEx : UE P w K mg base := ⟨NFx, UFx, (He.eqO_ok (Y.chk 7 (b := He.eqO (PySem.W.findIn K (.ref (He.ga K "Rule")) "__class__") (some (some (.builtin "object.__class__")))) rfl)), (of_decide_eq_true (Y.chk 0 (b := decide (PySem.W.specialIn K (.builtin "object.__class__") "__get__" = some (some (.builtin "getset_descriptor.__get__")))) rfl)), (of_decide_eq_true (Y.chk 1 (b := decide (PySem.W.takesIn K (.builtin "object.__class__") = some true)) rfl)), (of_decide_eq_true (Y.chk 8 (b := decide (PySem.W.mroIn K (He.ga K "Rule") (.type "object") = some true)) rfl)), ⟨_, ⟨(He.meth_ok (Y.D.fact 76 (f := .meth "Ratio" "__eq__") rfl)), (He.eqO_ok (Y.chk 4 (b := He.eqO (PySem.W.findIn K (.ref (He.ga K "Ratio")) "__ne__") (some (some (.builtin "object.__ne__")))) rfl)), (of_decide_eq_true (Y.chk 3 (b := decide (PySem.W.mroIn K (He.ga K "Ratio") (.type "object") = some true)) rfl))⟩, toR OEq b_Ratio_eq⟩⟩
    have ORe : FnOk P w K mg base CX0 4 _ fd_Rule_eq ["self", "other"] (spRuleEq K) := ok_ruleEq F_Rule_eq UEx
    have Lrng : FnOk P w K mg base CX0 1 _ fd_lpot ["_law_script", "_law_index"] (spRng K) := ok_rng F_lpot FR
    have Ldraw : FnOk P w K mg base CX0 1 _ fd_ldraw ["_law_pot_here", "_law_many"] spDraw := ok_draw F_ldraw FR
    have Lpick : FnOk P w K mg base CX0 2 _ fd_lpick ["_law_pot_here", "_law_some"] (spChoice K) := ok_choice F_lpick FR F_ldraw g_ldraw b_ldraw
    have Lon : FnOk P w K mg base CX0 3 _ fd_lodd_name ["_law_pot_here"] (spOddName K) := ok_oddName F_lodd_name ⟨_, _, Lpick, g_lpick, b_lpick, D_lpick.kp⟩
    have Loc : FnOk P w K mg base CX0 4 _ fd_lodd_claims ["_law_pot_here"] (spOddClaims K) := ok_oddClaims F_lodd_claims ⟨_, _, Ldraw, g_ldraw, b_ldraw, D_ldraw.kp⟩ ⟨_, _, Lpick, g_lpick, b_lpick, D_lpick.kp⟩ G NoRx (He.free_ok Y.X Y.G (Y.D.fact 50 (f := .free "tuple") rfl))
    have Los : FnOk P w K mg base CX0 8 _ fd_lodd_shifts ["_law_pot_here"] (spOddShifts K) := ok_oddShifts F_lodd_shifts ⟨_, _, Ldraw, g_ldraw, b_ldraw, D_ldraw.kp⟩ ⟨_, _, Lpick, g_lpick, b_lpick, D_lpick.kp⟩ G MkMx NoMx (He.free_ok Y.X Y.G (Y.D.fact 53 (f := .free "dict") rfl))
    have TB0 := TBs (codeAt K (He.ga K "_law_made"), tabAt K (codeAt K (He.ga K "_law_made"))) (List.mem_map.mpr ⟨He.ga K "_law_made", List.mem_cons_self, rfl⟩)
    have mT0 : (tabAt K (codeAt K (He.ga K "_law_made")), lamMade) ∈ lamT K := List.mem_cons_self
    have one0 : ∀ p ∈ lamT K, p.1 = tabAt K (codeAt K (He.ga K "_law_made")) → p.2 = lamMade := by
      intro p hp e
      simp only [lamT, List.mem_cons, List.not_mem_nil, or_false] at hp
      rcases hp with rfl | rfl | rfl | rfl | rfl
      · rfl
      · exact absurd e.symm nt01
      · exact absurd e.symm nt02
      · exact absurd e.symm nt03
      · exact absurd e.symm nt04
    have TB1 := TBs (codeAt K (He.ga K "_law_changes"), tabAt K (codeAt K (He.ga K "_law_changes"))) (List.mem_map.mpr ⟨He.ga K "_law_changes", (List.mem_cons_of_mem _ List.mem_cons_self), rfl⟩)
    have mT1 : (tabAt K (codeAt K (He.ga K "_law_changes")), lamChanges) ∈ lamT K := (List.mem_cons_of_mem _ List.mem_cons_self)
    have one1 : ∀ p ∈ lamT K, p.1 = tabAt K (codeAt K (He.ga K "_law_changes")) → p.2 = lamChanges := by
      intro p hp e
      simp only [lamT, List.mem_cons, List.not_mem_nil, or_false] at hp
      rcases hp with rfl | rfl | rfl | rfl | rfl
      · exact absurd e nt01
      · rfl
      · exact absurd e.symm nt12
      · exact absurd e.symm nt13
      · exact absurd e.symm nt14
    have TB2 := TBs (codeAt K (He.ga K "_law_unknown_right"), tabAt K (codeAt K (He.ga K "_law_unknown_right"))) (List.mem_map.mpr ⟨He.ga K "_law_unknown_right", (List.mem_cons_of_mem _ (List.mem_cons_of_mem _ List.mem_cons_self)), rfl⟩)
    have mT2 : (tabAt K (codeAt K (He.ga K "_law_unknown_right")), lamUnknown) ∈ lamT K := (List.mem_cons_of_mem _ (List.mem_cons_of_mem _ List.mem_cons_self))
    have one2 : ∀ p ∈ lamT K, p.1 = tabAt K (codeAt K (He.ga K "_law_unknown_right")) → p.2 = lamUnknown := by
      intro p hp e
      simp only [lamT, List.mem_cons, List.not_mem_nil, or_false] at hp
      rcases hp with rfl | rfl | rfl | rfl | rfl
      · exact absurd e nt02
      · exact absurd e nt12
      · rfl
      · exact absurd e.symm nt23
      · exact absurd e.symm nt24
    have TB3 := TBs (codeAt K (He.ga K "_law_ninth_right"), tabAt K (codeAt K (He.ga K "_law_ninth_right"))) (List.mem_map.mpr ⟨He.ga K "_law_ninth_right", (List.mem_cons_of_mem _ (List.mem_cons_of_mem _ (List.mem_cons_of_mem _ List.mem_cons_self))), rfl⟩)
    have mT3 : (tabAt K (codeAt K (He.ga K "_law_ninth_right")), lamNinth) ∈ lamT K := (List.mem_cons_of_mem _ (List.mem_cons_of_mem _ (List.mem_cons_of_mem _ List.mem_cons_self)))
    have one3 : ∀ p ∈ lamT K, p.1 = tabAt K (codeAt K (He.ga K "_law_ninth_right")) → p.2 = lamNinth := by
      intro p hp e
      simp only [lamT, List.mem_cons, List.not_mem_nil, or_false] at hp
      rcases hp with rfl | rfl | rfl | rfl | rfl
      · exact absurd e nt03
      · exact absurd e nt13
      · exact absurd e nt23
      · rfl
      · exact absurd e.symm nt34
    have TB4 := TBs (codeAt K (He.ga K "_law_taken_right"), tabAt K (codeAt K (He.ga K "_law_taken_right"))) (List.mem_map.mpr ⟨He.ga K "_law_taken_right", (List.mem_cons_of_mem _ (List.mem_cons_of_mem _ (List.mem_cons_of_mem _ (List.mem_cons_of_mem _ List.mem_cons_self)))), rfl⟩)
    have mT4 : (tabAt K (codeAt K (He.ga K "_law_taken_right")), lamTaken) ∈ lamT K := (List.mem_cons_of_mem _ (List.mem_cons_of_mem _ (List.mem_cons_of_mem _ (List.mem_cons_of_mem _ List.mem_cons_self))))
    have one4 : ∀ p ∈ lamT K, p.1 = tabAt K (codeAt K (He.ga K "_law_taken_right")) → p.2 = lamTaken := by
      intro p hp e
      simp only [lamT, List.mem_cons, List.not_mem_nil, or_false] at hp
      rcases hp with rfl | rfl | rfl | rfl | rfl
      · exact absurd e nt04
      · exact absurd e nt14
      · exact absurd e nt24
      · exact absurd e nt34
      · rfl
    have LMx : LM P w K mg base := ⟨⟨_, _, F_ltold, g_ltold, b_ltold⟩, ZE, UFx, ⟨_, _, gU2, (He.mkr_ok (Y.D.fact 72 (f := .mkr "Rule") rfl)), ORu, KB2⟩⟩
    have Lma : FnG P w K mg base CX0 9 _ fd_lmade ["_law_parts_now", "_law_due"] (spMadeR K (lamT K)) := ok_lmade F_lmade hc0 TB0 mT0 one0 LMx
    have LCx : LC P w K mg base := ⟨LMx, ⟨_, _, gU1, (He.mkr_ok (Y.D.fact 72 (f := .mkr "Rule") rfl)), ORu, KB1⟩, ⟨_, (He.meth_ok (Y.D.fact 77 (f := .meth "Rule" "changed") rfl)), OCh⟩, UEx, ⟨_, ⟨(He.meth_ok (Y.D.fact 78 (f := .meth "Rule" "__eq__") rfl)), (He.eqO_ok (Y.chk 9 (b := He.eqO (PySem.W.findIn K (.ref (He.ga K "Rule")) "__ne__") (some (some (.builtin "object.__ne__")))) rfl)), (of_decide_eq_true (Y.chk 8 (b := decide (PySem.W.mroIn K (He.ga K "Rule") (.type "object") = some true)) rfl))⟩, toR ORe b_Rule_eq⟩⟩
    have Lch : FnG P w K mg base CX0 10 _ fd_lchanges ["_law_parts_now", "_law_due"] (spChangesR K (lamT K)) := ok_lchanges F_lchanges hc1 TB1 mT1 one1 LCx
    have LRx : LR P w K mg base (lamT K) := ⟨⟨_, _, Ldraw, g_ldraw, b_ldraw, D_ldraw.kp⟩, ⟨_, _, Lpick, g_lpick, b_lpick, D_lpick.kp⟩, ⟨_, _, Lon, g_lodd_name, b_lodd_name, D_lodd_name.kp⟩, ⟨_, _, Loc, g_lodd_claims, b_lodd_claims, D_lodd_claims.kp⟩, ⟨_, _, Los, g_lodd_shifts, b_lodd_shifts, D_lodd_shifts.kp⟩, ⟨_, _, Lma, g_lmade, b_lmade, D_lmade.kp⟩, ⟨_, _, Lch, g_lchanges, b_lchanges, D_lchanges.kp⟩, MkMx, (of_decide_eq_true (Y.chk 52 (b := decide (PySem.W.kitOne K (.ref (He.ga K "Move")) (.ref (He.ga K "Move")) = some true)) rfl)), (He.free_ok Y.X Y.G (Y.D.fact 49 (f := .free "range") rfl))⟩
    have Lre : FnG P w K mg base CX0 11 _ fd_lrefused ["_law_pot_here"] (spRefusedR K (lamT K)) := ok_refusedR F_lrefused LRx
    have LUx : LU P w K mg base (.ref (kwAt "Rule" "__init__" "when" K)) := ⟨LMx, ⟨_, _, gU0, (He.mkr_ok (Y.D.fact 72 (f := .mkr "Rule") rfl)), ORu, KB0⟩, ⟨_, (He.meth_ok (Y.D.fact 77 (f := .meth "Rule" "changed") rfl)), OCh⟩, ⟨_, .type "tuple", rfl, (tup0B_ok (Y.chk 55 (b := tup0B K (kwAt "Rule" "__init__" "when" K)) rfl)).1, kit_tuple, (tup0B_ok (Y.chk 55 (b := tup0B K (kwAt "Rule" "__init__" "when" K)) rfl)).2⟩⟩
    have Lun : FnG P w K mg base CX0 10 _ fd_lunknown_right [] (spUnknown (lamT K)) := ok_unknown F_lunknown_right hc2 TB2 mT2 one2 LUx
    have LNx : LN P w K mg base := ⟨LMx, ⟨_, _, gU1, (He.mkr_ok (Y.D.fact 72 (f := .mkr "Rule") rfl)), ORu, KB1⟩, (He.free_ok Y.X Y.G (Y.D.fact 49 (f := .free "range") rfl)), (of_decide_eq_true (Y.chk 43 (b := decide (PySem.W.kitOne K (.type "NoneType") (.ref (He.ga K "Ratio")) = some false)) rfl))⟩
    have Lni : FnG P w K mg base CX0 10 _ fd_lninth_right [] (spUnknown (lamT K)) := ok_ninth F_lninth_right hc3 TB3 mT3 one3 LNx
    have LTx : LT P w K mg base := ⟨LNx, G, MkMx, (of_decide_eq_true (Y.chk 52 (b := decide (PySem.W.kitOne K (.ref (He.ga K "Move")) (.ref (He.ga K "Move")) = some true)) rfl))⟩
    have Lta : FnG P w K mg base CX0 10 _ fd_ltaken_right [] (spUnknown (lamT K)) := ok_taken F_ltaken_right hc4 TB4 mT4 one4 LTx
    exact ok_law F_law FR ⟨_, _, Lrng, g_lpot, b_lpot, D_lpot.kp⟩ ⟨_, _, Lre, g_lrefused, b_lrefused, D_lrefused.kp⟩ ⟨_, _, Lun, g_lunknown_right, b_lunknown_right, D_lunknown_right.kp⟩ ⟨_, _, Lta, g_ltaken_right, b_ltaken_right, D_ltaken_right.kp⟩ ⟨_, _, Lni, g_lninth_right, b_lninth_right, D_lninth_right.kp⟩
end K18
set_option maxHeartbeats 0
open PySem PySem.W PySem.Calls PyProof.Rows
theorem PySem.Challenge.cw_fademodes_k21_rules_refused_holds : PySem.Challenge.rw_fademodes_k21_rules_refused.Holds := by
  w_on; o_law
  refine HandSHeadRun.head_imp (r := OpenLaw.row PySem.Challenge.rw_fademodes_k21_rules_refused) (q := view (OpenLaw.row PySem.Challenge.rw_fademodes_k21_rules_refused).prog [0, 50]) (H := K18.hk) (ob := K18.ob) (M := 20000) (loose := K18.loose) (d := HandSHeadRun.topDef (OpenLaw.row PySem.Challenge.rw_fademodes_k21_rules_refused).prog 50) (kwd := []) K18.ob_eq
    K18.run (by kernel_rfl) (by kernel_rfl) (by kernel_rfl) (by rfl) (by first | assumption | decide +kernel) (by decide +kernel) ⟨rfl, rfl, rfl, rfl, rfl, by decide +kernel⟩ ?hw ?hc
  case hw => w_witness2
  case hc =>
    refine GL.walk_T2 (l := PySem.Challenge.rw_fademodes_k21_rules_refused) (n := 63) (k := 12) (x := "_law_script") rfl (by decide) (by kernel_rfl) ⟨rfl, by decide, by decide⟩ ?F
    intro w mg fa h Y G hmg0
    obtain ⟨K, T, KX, TX, c, cx, b, tb⟩ := Y
    have hmg : mg ("law" : PySem.Str) = some (.ref fa) := by
      have e : (HandSHeadRun.topDef (OpenLaw.row PySem.Challenge.rw_fademodes_k21_rules_refused).prog 50).name = ("law" : PySem.Str) := by kernel_rfl
      rw [← e]
      exact hmg0
    obtain ⟨b1, b2⟩ := He.ba b
    have one : ∀ f ∈ K18.lamF K, PySem.W.CodeHd h (GL.codeAt K f) (GL.tabAt K (GL.codeAt K f)) ∧ K.lookup (GL.tabAt K (GL.codeAt K f)) = none ∧ h.get? (GL.tabAt K (GL.codeAt K f)) = some { cls := .none, data := .fields #[] } := by
      intro f hf
      obtain ⟨t1, t2⟩ := He.ba (List.all_eq_true.mp tb f hf)
      obtain ⟨c1, c2, _⟩ := GL.codeB_ok KX t1
      refine ⟨c1, c2, ?_⟩
      split at t2
      · rename_i o e
        rw [GL.isTab_eq t2] at e
        exact TX _ _ e
      · cases t2
    have tabs : ∀ {y : PySem.Addr}, y ∈ ((K18.lamF K).map (fun f => (GL.codeAt K f, GL.tabAt K (GL.codeAt K f)))).map Prod.snd → ∃ f ∈ K18.lamF K, y = GL.tabAt K (GL.codeAt K f) := by
      intro y hy
      obtain ⟨x, hx, rfl⟩ := List.mem_map.mp hy
      obtain ⟨f, hf, rfl⟩ := List.mem_map.mp hx
      exact ⟨f, hf, rfl⟩
    obtain ⟨fd, hb, hF⟩ := K18.facts (P := (PySem.Challenge.rw_fademodes_k21_rules_refused).prog) (w := w) ⟨KX, TX, G, c, cx, GL.sysB_ok b1, b2, tb⟩ hmg
    refine ⟨K, (K18.lamF K).map (fun f => (GL.codeAt K f, GL.tabAt K (GL.codeAt K f))), fd, K18.spLaw K (K18.lamT K), KX, ?_, ?_, ?_, hb, ?_, hF⟩
    · intro y hy
      obtain ⟨f, hf, rfl⟩ := tabs hy
      exact (one f hf).2.2
    · intro y hy
      obtain ⟨f, hf, rfl⟩ := tabs hy
      exact (one f hf).2.1
    · intro x hx
      obtain ⟨f, hf, rfl⟩ := List.mem_map.mp hx
      exact (one f hf).1
    · intro H a ns hl ht hS
      refine ⟨a, ns, rfl, hS, hl, fun x hx => ?_, fun _ => rfl⟩
      simp only [K18.lamT, List.mem_cons, List.not_mem_nil, or_false] at hx
      rcases hx with rfl | rfl | rfl | rfl | rfl
      · exact LamX.TabS.nil (ht _ (List.mem_map.mpr ⟨_, List.mem_map.mpr ⟨_, List.mem_cons_self, rfl⟩, rfl⟩))
      · exact LamX.TabS.nil (ht _ (List.mem_map.mpr ⟨_, List.mem_map.mpr ⟨_, (List.mem_cons_of_mem _ List.mem_cons_self), rfl⟩, rfl⟩))
      · exact LamX.TabS.nil (ht _ (List.mem_map.mpr ⟨_, List.mem_map.mpr ⟨_, (List.mem_cons_of_mem _ (List.mem_cons_of_mem _ List.mem_cons_self)), rfl⟩, rfl⟩))
      · exact LamX.TabS.nil (ht _ (List.mem_map.mpr ⟨_, List.mem_map.mpr ⟨_, (List.mem_cons_of_mem _ (List.mem_cons_of_mem _ (List.mem_cons_of_mem _ List.mem_cons_self))), rfl⟩, rfl⟩))
      · exact LamX.TabS.nil (ht _ (List.mem_map.mpr ⟨_, List.mem_map.mpr ⟨_, (List.mem_cons_of_mem _ (List.mem_cons_of_mem _ (List.mem_cons_of_mem _ (List.mem_cons_of_mem _ List.mem_cons_self)))), rfl⟩, rfl⟩))
