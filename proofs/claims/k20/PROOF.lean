import PyProof.Rows.All
import Wide.All
import OpenK.AllK
import Wide.FinOn
import PyProof.EqAt
import PyProof.EqKinds
import PyProof.TupleCall
import HandS.ForMost
import HandS.ExcInit
import HandS.IsInst
import HandS.Wide
import HandS.WideBits
import HandS.ExcValue
import KE.KExcIs
import KE.KExcInit
import HandS.Defaults
import HandS.HeadHook2
import HandS.HeadEnd
import HandS.Head2
import HandS.Conv
import KE.KOpsOwn
import HandS.OwnEq
import HandS.Property
import HandS.ClsMeth
import HandS.Gcd
import HandS.MakeKw
import HandS.Star
import HandS.MethStar
import PyProof.InstNe
import HandS.Flow
import HandS.Head3
import HandS.TryMany
import HandS.ExcOwn
import HandS.Lambda
import HandS.Walk
import HandS.FStr
import KE.KAssignIn
import HandS.EndTab
import HandS.Iter
import HandS.AnyAll
import KE.GoesEnum
import HandS.More
import HandS.ExcCtx
import HandS.Small
import HandS.WordsExc
import HandS.DictComp
import HandS.MakeKwOnly
import KE.KParD
import KE.KRevSl
import KE.KEqDict
import HandS.NoneIn
import HandS.Style
import KE.KCallOwn
import KE.KFmtOwn
import PyProof.InstSpecial
import HandS.HotCalls
import PyProof.ReprNest
import PyProof.ReprRoads
import HandS.FStrTup
import PyProof.Rows.StrMeet
import HandS.ListItems
import HandS.TupAny
import PySem.Challenge.RW_fademodes_k20_rules_made
set_option Elab.async false
set_option linter.all false
set_option maxRecDepth 100000
set_option maxHeartbeats 4000000
namespace GL
open PySem PySem.Spec PyProof.Rows L2

/-! ### promises that hold where no container is being shown -/
structure FnG (P : Program) (w : World) (K : PySem.W.Frag) (mg : Str → Option Value) (base : Heap) (CX : CXT) (k : Nat) (f : Addr) (fd : FuncData) (ps : List Str) (sp : Sp) : Prop where
  many : ∀ vs H Q E, sp vs H Q E → vs.length = ps.length
  go : ∀ (A : Around) (outer : List Env) (s : Shared) (H : Hp) (args : Args) (us : List Value) (vs : List V) (Q : VK) (E : XK), A.guards = some [] → Room k A →
    Env0 P w K mg base A outer s H → BindsTo s fd args (ps.zip us) → Vals vs us → sp vs H Q E → codeAny (model P w) A (.call (.ref f) args) (CR CX outer P w H s Q E) s
theorem FnG.of {P : Program} {w : World} {K : PySem.W.Frag} {mg : Str → Option Value} {base : Heap} {CX : CXT} {k : Nat} {f : Addr} {fd : FuncData} {ps : List Str} {sp : Sp} (F : FnOk P w K mg base CX k f fd ps sp) : FnG P w K mg base CX k f fd ps sp :=
  ⟨F.len, fun A outer s H args us vs Q E _ => F.run A outer s H args us vs Q E⟩

section
variable {P : Program} {w : World} {K : PySem.W.Frag} {mg : Str → Option Value} {base : Heap} {CX : CXT}
theorem FnG.ofBody {k : Nat} {f : Addr} {name qual : Str} {params : Arguments} {body : List Stmt} {scope : Scope} {dV kV doc pm cdv ct oc : Value} {an od : Option Addr} {osl : Array (Option Value)} {N ps : List Str} {sp : Sp}
    (lk : K.lookup f = some ⟨oc, od, .func (PySem.W.fnOf name qual params body scope dV kV doc pm an cdv ct), osl⟩) (hcd : PySem.W.codeIn K cdv qual = true) (S : FnScope N ps scope) (many : ∀ vs H Q E, sp vs H Q E → vs.length = ps.length)
    (hbody : ∀ (A : Around) (outer : List Env) (s : Shared) (H : Hp) (vs : List V) (Q : VK) (E : XK), A.guards = some [] → Room k (A.deeper (envOfC qual scope s.heap.objs.size f cdv)) → sp vs H Q E →
      ∃ t, PSs (cxOf CX P w K mg base N qual scope f cdv A outer s H E) body t ∧ t { nx := fun _ H' => Q .non H', rt := Q } (start N vs) H) :
    FnG P w K mg base CX (k + 1) f (PySem.W.fnOf name qual params body scope dV kV doc pm an cdv ct) ps sp := by
  constructor
  · exact many
  intro A outer s H args us vs Q E gd hr e0 hb rv hsp
  have sameLen := many _ _ _ _ hsp
  have inS : K.In s.heap := e0.mod.kin.keeps fun b o e => (e0.bs b o e).1
  have noLim : s.heap.NoLimit := e0.mod.nolimit.keeps fun b o e => (e0.bs b o e).1
  have kinds : ∀ y ∈ ps.zip us, scope.names.lookup y.1 = some .local ∨ (scope.names.lookup y.1 = some .cell ∧ ((cellsFrom (s.heap.objs.size + 1) scope.names []).lookup y.1).isSome = true) := by
    intro y hy
    have hm := (List.of_mem_zip (a := y.1) (b := y.2) hy).1
    exact (S.par y.1 hm).imp id fun q => ⟨q, PySem.W.cellsFrom_some _ _ _ (.inl q)⟩
  apply codeAny_call_function hr.depth (inS _ _ lk) rfl S.co S.gen rfl (PySem.W.codeRec_of inS hcd)
  apply hb
  apply wpAny_newFunctionEnv_cells S.kind kinds
  intro env he s1 entered
  cases he
  refine ⟨noLim.keeps entered.toInCall.keep, codeAny_func ?_⟩
  obtain ⟨t, tOk, tRun⟩ := hbody A outer s H vs Q E gd (hr.deeper _) hsp
  have atStart : Inv (cxOf CX P w K mg base N qual scope f cdv A outer s H E) [] (start N vs) H s1 := inv_start S hr.hd e0 sameLen rv entered
  refine wpAny_mono (tOk.run [] s1 (start N vs) H _ atStart tRun) (fun fl s' hs => ?_) fun e s' hs => hs
  match fl, hs with
  | .ret u, hs =>
    obtain ⟨v, σ', H', J, r, q⟩ := hs
    exact ⟨v, H', J.os, J.bare, J.base, J.hok, r, q⟩
  | .next, hs =>
    obtain ⟨σ', H', J, q⟩ := hs
    exact ⟨V.non, H', J.os, J.bare, J.base, J.hok, rfl, q⟩
  | .brk, hs =>
    obtain ⟨_, _, _, q⟩ := hs
    exact False.elim q
  | .cont, hs =>
    obtain ⟨_, _, _, q⟩ := hs
    exact False.elim q
end

section
variable {X : Cx} {CX : CXT} {k : Nat} {f : Addr} {fd : FuncData} {ps : List Str} {sp : Sp} {dvs : List V} {ds : List Value} {E : XK} {x : Str} {p pos : Pos} {e : Expr} {es : List Expr} {t : TA}
theorem FnG.call {pins : List (Addr × Obj)} {σ : L2.St} {H : Hp} {s : Shared} {Q : VK} {us : List Value} {vs : List V} (F : FnG X.prog X.w X.K X.mg X.base CX k f fd ps sp) (gd : X.A.guards = some []) (hr : Room k X.A) (hb : Binds X.K fd ps ds) (hd : Vals dvs ds)
    (hx : Passes CX X E) (I : Inv X pins σ H s) (r : Vals vs us) (h : sp (vs ++ dvs) H Q E) : wpAny (model X.prog X.w) X.A (PySem.call (.ref f) us) (EP X pins σ Q) X.xe s := by
  have all := r.append hd
  have hl : (us ++ ds).length = ps.length := all.length.symm.trans (F.many _ _ _ _ h)
  apply wpAny_call
  refine codeAny_mono (F.go X.A X.stack s H ⟨us, []⟩ (us ++ ds) (vs ++ dvs) Q E gd hr I.env0 (hb s us I.kIn hl) all h) ?_
  intro r' s' hq
  match r', hq with
  | .error er, hq => exact hx pins σ H s er s' I hq
  | .ok (.ret u), hq => exact I.after hq
  | .ok .next, hq => exact False.elim hq
  | .ok .brk, hq => exact False.elim hq
  | .ok .cont, hq => exact False.elim hq
/-- f(e, ..), f one of these defs -/
theorem pe_callG (F : FnG X.prog X.w X.K X.mg X.base CX k f fd ps sp) (gd : X.A.guards = some []) (hr : Room k X.A) (hg : Gl X x) (hm : X.mg x = some (.ref f)) (hk : PySem.W.keepIn X.K (.ref f) = true) (hb : Binds X.K fd ps ds) (hd : Vals dvs ds) (hx : Passes CX X E)
    (ha : PA X (e :: es) t) (hdb : (x == ("__debug__" : Str)) = false := by decide) (he : starEach (e :: es) X.env = (false, eval e X.env) :: starEach es X.env := by rfl) (hpl : (backTo pos (starEach es X.env)).any (·.1) = false := by rfl) :
    PE X (.Call (.Name x p) (e :: es) [] pos) (tCall sp dvs E t) := by
  constructor
  intro pins s σ H Q I h
  apply wpAny_Call_Name_kw
  refine ld_glob I hg hm ?_ hdb
  refine PySem.W.callWith_K (h₀ := X.base) I.ok.mod.kin hk (thn (ha.run pos pins s σ H _ I h) ?_) he hpl
  rintro us s1 ⟨vs, H1, I1, r, q⟩
  exact ⟨I1.kIn, F.call gd hr hb hd hx I1 r q⟩
theorem pe_callG0 (F : FnG X.prog X.w X.K X.mg X.base CX k f fd ps sp) (gd : X.A.guards = some []) (hr : Room k X.A) (hg : Gl X x) (hm : X.mg x = some (.ref f)) (hk : PySem.W.keepIn X.K (.ref f) = true) (hb : Binds X.K fd ps ds) (hd : Vals dvs ds) (hx : Passes CX X E)
    (hdb : (x == ("__debug__" : Str)) = false := by decide) : PE X (.Call (.Name x p) [] [] pos) (tCall sp dvs E tNil) := by
  constructor
  intro pins s σ H Q I h
  apply wpAny_Call_Name_kw
  refine ld_glob I hg hm ?_ hdb
  exact PySem.W.callWith_K0 I.kIn hk (F.call (us := []) gd hr hb hd hx I .nil h)
end

section
variable {P : Program} {w : World} {K : PySem.W.Frag} {mg : Str → Option Value} {base : Heap}
theorem Fun.okG {x qual : Str} {st : Stmt} {f : Addr} {fd : FuncData} {N ps : List Str} {k : Nat} {sp : Sp} (F : L2.Fun K x qual st f fd) (S : FnScope N ps (defScope st)) (many : ∀ vs H Q E, sp vs H Q E → vs.length = ps.length)
    (hbody : ∀ (cdv : Value) (A : Around) (outer : List Env) (s : Shared) (H : Hp) (vs : List V) (Q : VK) (E : XK), A.guards = some [] → Room k (A.deeper (envOfC qual (defScope st) s.heap.objs.size f cdv)) → sp vs H Q E →
      ∃ t, PSs (cxOf CX0 P w K mg base N qual (defScope st) f cdv A outer s H E).nox (defBody st) t ∧ t { nx := fun _ H' => Q .non H', rt := Q } (start N vs) H) : FnG P w K mg base CX0 (k + 1) f fd ps sp := by
  obtain ⟨oc, od, kV, doc, pm, an, cdv, ct, osl, rfl, lk, hcd⟩ := F.ex
  refine FnG.ofBody lk hcd S many ?_
  intro A outer s H vs Q E gd hr hsp
  obtain ⟨t, h, q⟩ := hbody cdv A outer s H vs Q E gd hr hsp
  exact ⟨t, h.nox, q⟩
end

/-! ### the law's call -/
theorem law_callG {P : Program} {w : World} {K : PySem.W.Frag} {mg mb : Str → Option Value} {k : Nat} {fa a : Addr} {fd : FuncData} {x : Str} {sp : Sp} {s₁ : Shared} {vs : List Value} {ns : List Int}
    (KX : K.In s₁.heap) (hns : s₁.heap.Ns mainGlobals mg) (hb : s₁.heap.Ns builtinsNs mb) (hbb : ∀ x : Str, x ≠ "__name__" → mb x = bootBuiltins x) (hlim : s₁.heap.NoLimit) (hg : s₁.gens = #[])
    (ha : s₁.heap.get? a = some { cls := .type "list", data := .seq vs.toArray }) (hi : IntsAre vs ns) (hl : ns.length ≤ sizeLine) (hr : Room k callerA)
    (F : ∀ base : Heap, K.In base → base.Ns mainGlobals mg → FnG P w K mg base CX0 k fa fd [x] sp) (hbind : ∀ (s : Shared) (u : Value), BindsTo s fd ⟨[u], []⟩ [(x, u)])
    (hsp : ∀ H : Hp, Only H → SqL K H a (ns.map V.int) → sp [.ref a] H (fun v _ => v = .bl true) E0) :
    codeAny (model P w) callerA (.call (.ref fa) ⟨[.ref a], []⟩) (fun r s' => r = .ok (.ret (.bool true)) ∧ OldK s₁.heap s'.heap ∧ s'.os = s₁.os ∧ AllBare s'.gens) s₁ := by
  have rv := vals_ints hi
  have main : ∀ H : Hp, Only H → SqL K H a (ns.map V.int) → HOk P w H s₁.heap → (∀ b u, H b = some u → b = a ∧ K.lookup a = none) →
      codeAny (model P w) callerA (.call (.ref fa) ⟨[.ref a], []⟩) (fun r s' => r = .ok (.ret (.bool true)) ∧ OldK s₁.heap s'.heap ∧ s'.os = s₁.os ∧ AllBare s'.gens) s₁ := by
    intro H only sq hok ours
    have stays : ∀ {b : Addr} {o : Obj}, s₁.heap.get? b = some o → H b = none → (hidT s₁.heap H).get? b = some o := fun e n => hidT_get e n
    have free : ∀ {b : Addr} {o : Obj} {es : Array DictEntry} {ep : Nat}, s₁.heap.get? b = some o → o.data = .dict es ep → H b = none := by
      intro b o es ep e d
      cases q : H b with
      | none => rfl
      | some u =>
        cases (ours b u q).1
        rw [ha] at e
        cases e
        cases d
    have spaces : ∀ {b : Addr} {m : Str → Option Value}, s₁.heap.Ns b m → (hidT s₁.heap H).Ns b m := fun {b m} ⟨o, es, ep, e, d, r⟩ => ⟨o, es, ep, stays e (free e d), d, r⟩
    have kin : K.In (hidT s₁.heap H) := by
      intro b o e
      refine stays (KX b o e) ?_
      cases q : H b with
      | none => rfl
      | some u =>
        obtain ⟨rfl, z⟩ := ours b u q
        rw [z] at e
        cases e
    have md : Mod K mg (hidT s₁.heap H) := ⟨kin, spaces hns, ⟨mb, spaces hb, hbb⟩, let ⟨mc, h1, h2⟩ := hlim; ⟨mc, spaces h1, h2⟩⟩
    have nofr : ∀ b ∈ frs ([] : List Env), H b = none := fun b z => nomatch z
    have e0 : Env0 P w K mg (hidT s₁.heap H) callerA [] s₁ H := ⟨rfl, md, fun b o e => of_hidT e, Nat.le_of_eq (hidT_size _ _), trivial, nofr, hok, .of_eq hg⟩
    refine codeAny_mono ((F _ kin (spaces hns)).go callerA [] s₁ H ⟨[.ref a], []⟩ [.ref a] [.ref a] _ _ rfl hr e0 (hbind s₁ (.ref a)) (.cons rfl .nil) (hsp H only sq)) ?_
    intro r s' h
    match r, h with
    | .error e, h => exact False.elim h
    | .ok .next, h => exact False.elim h
    | .ok .brk, h => exact False.elim h
    | .ok .cont, h => exact False.elim h
    | .ok (.ret u), h =>
      obtain ⟨v, H', os, bare, un, hok', r', rfl⟩ := h
      cases (show u = Value.bool true from r')
      refine ⟨rfl, OldK.of_keep fun b o e => ?_, os, bare⟩
      cases q : H b with
      | none => exact un.keep b o e q (fun z => nomatch z) (fun z => nomatch z)
      | some u =>
        rcases only b with z | ⟨ob, xs, z⟩
        · rw [q] at z
          cases z
        · have e1 := (hok b _ z).1
          have e2 := (hok' b _ (un.frzs b ob _ z)).1
          rw [e] at e1
          cases e1
          exact e2
  cases hk : K.lookup a with
  | some o =>
    have e := KX a o hk
    rw [ha] at e
    cases e
    have none_ : ∀ b u, (fun _ => none : Hp) b = some u → b = a ∧ K.lookup a = none := fun b u z => nomatch z
    refine main (fun _ => none) (fun _ => .inl rfl) (.inr ⟨_, vs.toArray, _, hk, rfl, rfl, rfl, ?_, by simpa using rv⟩) (fun b u z => nomatch z) none_
    rw [List.size_toArray, hi.length]
    exact hl
  | none =>
    have at_ : ∀ b u, (fun b => if b = a then some (HO.frz { cls := .type "list", data := .seq vs.toArray } (.lst (ns.map V.int))) else none : Hp) b = some u → b = a ∧ u = HO.frz { cls := .type "list", data := .seq vs.toArray } (.lst (ns.map V.int)) := by
      intro b u z
      by_cases hb : b = a
      · have z' := (if_pos hb).symm.trans z
        exact ⟨hb, (Option.some.inj z').symm⟩
      · have z' := (if_neg hb).symm.trans z
        cases z'
    refine main (fun b => if b = a then some (HO.frz { cls := .type "list", data := .seq vs.toArray } (.lst (ns.map V.int))) else none) ?_ (.inl (.inr ⟨{ cls := .type "list", data := .seq vs.toArray }, if_pos rfl⟩)) ?_ ?_
    · intro b
      by_cases hb : b = a
      · exact .inr ⟨_, _, if_pos hb⟩
      · exact .inl (if_neg hb)
    · intro b u z
      obtain ⟨rfl, rfl⟩ := at_ b u z
      exact ⟨ha, by rw [List.length_map]; exact hl, vs, _, rv, ha⟩
    · intro b u z
      exact ⟨(at_ b u z).1, hk⟩

theorem walk_G {l : PySem.W.OpenLaw} {n k : Nat} {q : Program} {loose : List Str} {XP : (Str → Option Value) → Heap → Prop} {YP : World → Heap → Prop} {d : DefRec} {x : Str}
    (hn : l.most = some n) (hn2 : n ≤ sizeLine) (hdf : d.params.defaults = []) (hr : Room k callerA)
    (F : ∀ (w : World) (mg : Str → Option Value) (fa : Addr) (h : Heap), YP w h → h.Ns mainGlobals mg → mg d.name = some (.ref fa) →
      ∃ (K : PySem.W.Frag) (fd : FuncData) (sp : Sp), K.In h ∧ (∀ (s : Shared) (u : Value), BindsTo s fd ⟨[u], []⟩ [(x, u)]) ∧
        (∀ (H : Hp) (a : Addr) (ns : List Int), ns.length ≤ n → Only H → SqL K H a (ns.map V.int) → sp [.ref a] H (fun v _ => v = .bl true) E0) ∧
        ∀ base : Heap, K.In base → base.Ns mainGlobals mg → FnG l.prog w K mg base CX0 k fa fd [x] sp) :
    PySem.W.WalkO q loose XP YP l.row.toRowW d [] (fun f vs => PySem.call f vs) := by
  apply Att.attach_call hn hdf
  intro w s₀ s₁ mg mb fa o pm cd doc a vs ns G Y ho hd hcd hmg hobj hints hlen hg
  obtain ⟨K, fd, sp, KX, hb, hsp, hF⟩ := F w mg fa _ Y G.T.g hmg
  exact law_callG KX G.T.g G.T.b G.T.builtins G.T.nolimit hg hobj hints (Nat.le_trans hlen hn2) hr hF hb fun H only sq => hsp H a ns hlen only sq

/-! ### data that is read, dicts too -/
mutual
inductive Dq (K : PySem.W.Frag) (H : Hp) : V → PyData → Prop
  | non : Dq K H .non .none
  | bl (b : Bool) : Dq K H (.bl b) (.bool b)
  | int (i : Int) : Dq K H (.int i) (.int i)
  | str (x : Str) : Dq K H (.str x) (.str x)
  | lst {a : Addr} {xs : List V} {ds : List PyData} : SqL K H a xs → DqAll K H xs ds → Dq K H (.ref a) (.list ds)
  | tup {a : Addr} {xs : List V} {ds : List PyData} : SqT K H a xs → DqAll K H xs ds → Dq K H (.ref a) (.tuple ds)
  | dct {a : Addr} {kvs : List (Key × V)} {ps : List (PyData × PyData)} : H a = some (.dK kvs) → DqKv K H kvs ps → Dq K H (.ref a) (.dict ps)
inductive DqAll (K : PySem.W.Frag) (H : Hp) : List V → List PyData → Prop
  | nil : DqAll K H [] []
  | cons {v : V} {vs : List V} {d : PyData} {ds : List PyData} : Dq K H v d → DqAll K H vs ds → DqAll K H (v :: vs) (d :: ds)
inductive DqKv (K : PySem.W.Frag) (H : Hp) : List (Key × V) → List (PyData × PyData) → Prop
  | nil : DqKv K H [] []
  | consI {i : Int} {v : V} {d : PyData} {r : List (Key × V)} {ps : List (PyData × PyData)} : Dq K H v d → DqKv K H r ps → DqKv K H ((.inl i, v) :: r) ((.int i, d) :: ps)
  | consS {x : Str} {v : V} {d : PyData} {r : List (Key × V)} {ps : List (PyData × PyData)} : Dq K H v d → DqKv K H r ps → DqKv K H ((.inr x, v) :: r) ((.str x, d) :: ps)
end
end GL
set_option maxHeartbeats 4000000
namespace GL
open PySem PySem.Spec PyProof.Rows L2
/-- the written part knows the table of modules -/
def SysK (K : PySem.W.Frag) : Prop := ∃ o es ep, K.lookup sysModules = some o ∧ o.data = .dict es ep
section
variable {X : Cx} {pins : List (Addr × Obj)} {σ : L2.St} {H : Hp} {s : Shared}
theorem notSys (S : SysK X.K) (I : Inv X pins σ H s) {a : Addr} {o : Obj} {vs : Array Value} {n : Nat} (e : s.heap.get? a = some o) (d : o.data = .seq vs n) : sysModules ≠ a := by
  rintro rfl
  obtain ⟨o', es, ep, l, d'⟩ := S
  have e' := I.kIn _ _ l
  rw [e] at e'
  cases e'
  rw [d] at d'
  cases d'
theorem kvReads {h : Heap} : ∀ {kvs : List (Key × Value)} {es : List DictEntry} {P : Program} {w : World}, Pairs (mixKind P w) es kvs →
    ∀ {ps : List (PyData × PyData)} {as : List Addr}, ReadsAll h (es.map (·.val)) (ps.map (·.2)) as → (∀ i : Nat, (kvs[i]?).map (fun kv => match kv.1 with | .inl j => PyData.int j | .inr x => PyData.str x) = (ps[i]?).map (·.1)) → ReadsAll h (es.map (·.key)) (ps.map (·.1)) [] := by
  intro kvs es P w pr
  induction pr with
  | nil =>
    intro ps as r hk
    cases ps with
    | nil => exact ReadsAll.nil
    | cons p ps => cases r
  | @cons e kv es kvs hk hv _ ih =>
    intro ps as r hh
    cases ps with
    | nil => cases r
    | cons p ps =>
      have h0 := hh 0
      have rest : ∀ i : Nat, (kvs[i]?).map (fun kv => match kv.1 with | .inl j => PyData.int j | .inr x => PyData.str x) = (ps[i]?).map (·.1) := fun i => by simpa using hh (i + 1)
      obtain ⟨pk, pv⟩ := p
      obtain ⟨k, v⟩ := kv
      simp at h0
      cases r with
      | cons r1 r2 =>
        have t := ih r2 rest
        show ReadsAll h (e.key :: es.map (·.key)) (pk :: ps.map (·.1)) ([] ++ [])
        refine ReadsAll.cons ?_ t
        rcases keyIs_shape (show keyIs k e.key = true from hk) with ⟨j, u, rfl, e1⟩ | ⟨x, u, rfl, e1⟩
        · rw [e1, ← h0]
          exact Reads.int j u
        · rw [e1, ← h0]
          exact Reads.str x u
theorem pairsVals {P : Program} {w : World} : ∀ {kvs : List (Key × Value)} {es : List DictEntry}, Pairs (mixKind P w) es kvs → es.map (·.val) = kvs.map (·.2) := by
  intro kvs es pr
  induction pr with
  | nil => rfl
  | @cons e kv es kvs _ hv _ ih => rw [List.map_cons, List.map_cons, ih, hv]
theorem kvVals : ∀ {kvs : List (Key × V)} {vs : List (Key × Value)}, KV kvs vs → Vals (kvs.map (·.2)) (vs.map (·.2)) ∧ ∀ i : Nat, (vs[i]?).map (·.1) = (kvs[i]?).map (·.1)
  | _, _, .nil => ⟨.nil, fun i => by simp⟩
  | _, _, .cons r t => by
    obtain ⟨a, b⟩ := kvVals t
    refine ⟨.cons r.2 a, fun i => ?_⟩
    cases i with
    | zero => simp [r.1]
    | succ i => simpa using b i
theorem kvKeys {K : PySem.W.Frag} {H : Hp} : ∀ {kvs : List (Key × V)} {ps : List (PyData × PyData)}, DqKv K H kvs ps → ∀ i : Nat, (kvs[i]?).map (fun kv => match kv.1 with | .inl j => PyData.int j | .inr x => PyData.str x) = (ps[i]?).map (·.1) := by
  intro kvs
  induction kvs with
  | nil =>
    intro ps h i
    cases h
    rfl
  | cons kv kvs ih =>
    intro ps h i
    cases h with
    | consI a b =>
      cases i with
      | zero => rfl
      | succ i => simpa using ih b i
    | consS a b =>
      cases i with
      | zero => rfl
      | succ i => simpa using ih b i
mutual
theorem Dq.reads (S : SysK X.K) (I : Inv X pins σ H s) : ∀ {v : V} {d : PyData} {u : Value}, Dq X.K H v d → RelV v u → ∃ as, Reads s.heap u d as ∧ sysModules ∉ as
  | _, _, _, .non, r => by
    cases r
    exact ⟨_, Reads.none, List.not_mem_nil⟩
  | _, _, _, .bl b, r => by
    cases r
    exact ⟨_, Reads.bool b, List.not_mem_nil⟩
  | _, _, _, .int i, r => by
    obtain ⟨t, rfl⟩ := r
    exact ⟨_, Reads.int i t, List.not_mem_nil⟩
  | _, _, _, .str x, r => by
    obtain ⟨t, rfl⟩ := r
    exact ⟨_, Reads.str x t, List.not_mem_nil⟩
  | _, _, _, .lst hs ha, r => by
    cases r
    obtain ⟨its, rv, ⟨o, n, ho, hc, _, hd⟩, _⟩ := I.list hs
    obtain ⟨as, hr, hn⟩ := DqAll.reads S I ha rv
    exact ⟨_, Reads.list ho hc hd hr, List.not_mem_cons_of_ne_of_not_mem (notSys S I ho hd) hn⟩
  | _, _, _, .tup hs ha, r => by
    cases r
    obtain ⟨its, rv, ⟨o, ho, hc, n, hd⟩, _⟩ := I.tuple hs
    obtain ⟨as, hr, hn⟩ := DqAll.reads S I ha rv
    exact ⟨_, Reads.tuple ho hc hd hr, hn⟩
  | _, _, _, @Dq.dct _ _ a kvs ps e hk, r => by
    cases r
    obtain ⟨_, ns, vs, kv, o, es, ep, ho, ex, hd, _, pr, _⟩ := I.hok a _ e
    obtain ⟨rv, ks⟩ := kvVals kv
    obtain ⟨as, hr, hn⟩ := DqKv.reads S I hk rv
    rw [← pairsVals pr] at hr
    have kr := kvReads pr hr (fun i => by
      rw [← kvKeys hk i]
      have := ks i
      cases q : vs[i]? <;> cases q' : kvs[i]? <;> rw [q, q'] at this <;> simp at this ⊢
      rw [this])
    refine ⟨_, Reads.dict ho ex.1 hd kr hr, ?_⟩
    refine List.not_mem_cons_of_ne_of_not_mem (fun z => ?_) (by simpa using hn)
    rw [← z] at ns
    simp at ns
theorem DqAll.reads (S : SysK X.K) (I : Inv X pins σ H s) : ∀ {vs : List V} {ds : List PyData} {us : List Value}, DqAll X.K H vs ds → Vals vs us → ∃ as, ReadsAll s.heap us ds as ∧ sysModules ∉ as
  | _, _, _, .nil, r => by
    cases r
    exact ⟨_, ReadsAll.nil, List.not_mem_nil⟩
  | _, _, _, .cons h1 h2, .cons r1 r2 => by
    obtain ⟨as, q1, n1⟩ := Dq.reads S I h1 r1
    obtain ⟨bs, q2, n2⟩ := DqAll.reads S I h2 r2
    exact ⟨_, ReadsAll.cons q1 q2, by simp [n1, n2]⟩
theorem DqKv.reads (S : SysK X.K) (I : Inv X pins σ H s) : ∀ {kvs : List (Key × V)} {ps : List (PyData × PyData)} {us : List Value}, DqKv X.K H kvs ps → Vals (kvs.map (·.2)) us → ∃ as, ReadsAll s.heap us (ps.map (·.2)) as ∧ sysModules ∉ as
  | _, _, _, .nil, r => by
    cases r
    exact ⟨_, ReadsAll.nil, List.not_mem_nil⟩
  | _, _, _, .consI h1 h2, .cons r1 r2 => by
    obtain ⟨as, q1, n1⟩ := Dq.reads S I h1 r1
    obtain ⟨bs, q2, n2⟩ := DqKv.reads S I h2 r2
    exact ⟨_, ReadsAll.cons q1 q2, by simp [n1, n2]⟩
  | _, _, _, .consS h1 h2, .cons r1 r2 => by
    obtain ⟨as, q1, n1⟩ := Dq.reads S I h1 r1
    obtain ⟨bs, q2, n2⟩ := DqKv.reads S I h2 r2
    exact ⟨_, ReadsAll.cons q1 q2, by simp [n1, n2]⟩
end
end

/-! ### repr of data -/
def rRepr (K : PySem.W.Frag) : List V → Hp → VK → Prop := fun xs H Q => ∃ (a : Addr) (d : PyData), xs = [.ref a] ∧ Dq K H (.ref a) d ∧ d.showable = true ∧ d.depth ≤ 40 ∧ d.shown.length ≤ sizeLine ∧ Q (.str d.shown) H
theorem call_reprD {X : Cx} (S : SysK X.K) (gd : X.A.guards = some []) (hu : X.A.units + 64 < cLine) : CallR X (.builtin "repr") (rRepr X.K) := by
  intro pins s σ H xs us Q I r h
  obtain ⟨a, d, rfl, hd, sh, dp, sz, q⟩ := h
  cases r with
  | cons r1 r2 =>
    cases r2
    cases r1
    obtain ⟨as, rd, ns⟩ := Dq.reads S I hd rfl
    refine repr_of_reads' rd sh (fun _ => ns) gd (by omega) (fun b o e => e) (fun h' u tk keep => ?_) sz
    exact ⟨.str d.shown, H, I.kept keep, ⟨u, rfl⟩, q⟩
end GL
set_option maxHeartbeats 4000000
/-! Errors of the program as values: made by places and by names, their fields stored and read, isinstance. -/
namespace PySem
namespace GX
open PySem.W PySem.Calls PyProof.Rows PySem.HandSPX Builtin Builtin.ObjectAttr
section
variable {prog : Program} {w : World} {A : Around} {E : Value → Shared → Prop} {R : Result → Shared → Prop} {hp : Heap} {g : Array GenState} {d : Drawn} {t : Nat} {os : OsState}
variable {nm q : Str} {C N : Addr} {bs bm bmB : List Value} {hdct : Bool} {sn : List Str} {sub : List Value} {ab : Bool} {col : Option Bool} {dd : Option Addr} {k0 k1 k2 k3 k5 : Option Value} {B newId initId : String}
theorem tail_some {l : List Value} (hB : bmB.isEmpty = false) (e : excTail bmB l = true) : l.isEmpty = false := by
  cases l with
  | cons _ _ => rfl
  | nil =>
    have q : ([] : List Value) = bmB := beq_iff_eq.mp e
    rw [← q] at hB
    exact hB
/-- the way of a store at an error's object as far as the own dict -/
theorem to_own {K : W.Frag} {name : Str} {tk : Tok} {v : Value} {x : Addr} {ox : Obj} {od : Option Obj} {cd : ClassData} (SB : StoreFacts B bmB "object.__setattr__" "object") (hB : bmB.isEmpty = false) (hO : bmB.contains (.type "object") = true)
    (X : K.In hp) (I : W.InstAt hp x ox C od) (hcd : W.clsIn K C = some cd) (hm : excTail bmB cd.mro = true) (ha : W.findIn K (.ref C) name = some none)
    (h : wpAny (model prog w) A.in1 (storeInOwnDict (.ref x) (.ref C) (.str name tk) name v false)
      (fun fin s' => match fin with | .done f => R (.ok f) s' | .again c' => c'.quiet = true ∧ codeAny (model prog w) A c' R s') (fun e s' => R (.error e) s') ⟨hp, g, d, t, os⟩) :
    codeAny (model prog w) A (.call (.builtin "object.__setattr__") ⟨[.ref x, .str name tk, v], []⟩) R ⟨hp, g, d, t, os⟩ := by
  have SO := F.store_object
  have some_ := tail_some hB hm
  have obj : cd.mro.contains (.type "object") = true := (excTail_contains "object" _ hm).trans hO
  have isO : W.Looks (model prog w) hp (isInstance (.ref x) (.type "object")) true := by
    refine I.type.andThen (W.looks_mroIn X ?_)
    unfold W.mroIn
    rw [hcd, Option.bind_some, some_, obj]
    rfl
  apply codeAny_call_builtin SO.slot.plain SO.entry
  refine @W.check_slot (model prog w) _ _ ⟨hp, g, d, t, os⟩ "object.__setattr__" "object" "__setattr__" (.ref x) [.str name tk, v] [] _ SO.kind SO.split isO (SO.args (.ref x) (.str name tk) v) ?_
  have mro : W.Looks (model prog w) hp (mroOf (.ref C)) cd.mro := (W.looks_clsIn X hcd).andThen .now
  have nobody : W.Looks (model prog w) hp (storeTaker? none) none := .now
  rw [W.osa_eq, refuse_eq]
  apply wpAny_bind
  apply wpAny_bind
  apply I.type.at
  apply wpAny_bind
  apply mro.at
  rw [excTail_pass (.ref x) (SB.passes (.ref x)) _ hm]
  apply wpAny_pure
  apply wpAny_bind
  apply I.type.at
  apply wpAny_bind
  apply (W.looks_findIn X ha).at
  apply wpAny_bind
  apply nobody.at
  exact h
/-- the first field: the error gets its dict -/
theorem store_first {K : W.Frag} {name : Str} {tk : Tok} {v : Value} {x : Addr} {fv : Array Value} {cd : ClassData} (SB : StoreFacts B bmB "object.__setattr__" "object") (hB : bmB.isEmpty = false) (hO : bmB.contains (.type "object") = true)
    (X : K.In hp) (hx : hp.get? x = some { cls := .ref C, data := .fields fv }) (hcd : W.clsIn K C = some cd) (hm : excTail bmB cd.mro = true) (hh : cd.hasDict = true) (ha : W.findIn K (.ref C) name = some none)
    (hq : ∀ h' tk' dx, (∀ b o, b ≠ x → hp.get? b = some o → h'.get? b = some o) → hp.objs.size ≤ dx → dx ≠ x → h'.get? x = some { cls := .ref C, dict := some dx, data := .fields fv } →
      h'.Ns1 dx (fun y => if y = name then some v else none) → R (.ok (.ret .none)) ⟨h', g, d, tk', os⟩) :
    codeAny (model prog w) A (.call (.builtin "object.__setattr__") ⟨[.ref x, .str name tk, v], []⟩) R ⟨hp, g, d, t, os⟩ := by
  have I : W.InstAt hp x { cls := .ref C, data := .fields fv } C none := ⟨hx, rfl, rfl, trivial⟩
  have cl : W.Looks (model prog w) hp (classData C) cd := W.looks_clsIn X hcd
  have apart : x ≠ hp.objs.size := Nat.ne_of_lt (Heap.lt_size hx)
  apply to_own SB hB hO X I hcd hm ha
  rcases cd with ⟨n1, n2, n3, n4, n5, n6, n7, n8, n9, n10, n11⟩
  cases (show n6 = true from hh)
  unfold storeInOwnDict ownDictForStores
  repeat (first | with_reducible refine HandSPX.store_in_new ?_ ?_ | with_reducible refine wpAny_loadPart_at hx ?_ | with_reducible refine cl.at ?_ | wp_step)
  · exact ⟨_, #[], _, (Heap.get?_update_ne _ _ _ _ apart.symm).trans (Heap.get?_push_at rfl rfl), rfl, fun e he => absurd he (by simp), fun _ => rfl⟩
  · intro h' tk' named but
    have there : (hp.push { cls := .type "dict", data := .dict #[] }).get? x = some { cls := .ref C, data := .fields fv } := Heap.get?_push_of_some _ hx
    apply hq h' tk' hp.objs.size
    · intro b o hb ho
      rw [but.2 b (Nat.ne_of_lt (Heap.lt_size ho)), Heap.get?_update_ne _ _ _ _ hb]
      exact Heap.get?_push_of_some _ ho
    · exact Nat.le_refl _
    · exact apart.symm
    · rw [but.2 x apart]
      exact Heap.get?_update_self _ there rfl
    · exact named
/-- a further field -/
theorem store_next {K : W.Frag} {name : Str} {tk : Tok} {v : Value} {x dx : Addr} {fv : Array Value} {cd : ClassData} {m0 : Str → Option Value} {nl : List Str} (SB : StoreFacts B bmB "object.__setattr__" "object") (hB : bmB.isEmpty = false) (hO : bmB.contains (.type "object") = true)
    (X : K.In hp) (hx : hp.get? x = some { cls := .ref C, dict := some dx, data := .fields fv }) (hns : hp.Ns1 dx m0) (hw : Within m0 nl) (hz : nl.length ≤ 1000) (hcd : W.clsIn K C = some cd) (hm : excTail bmB cd.mro = true) (hh : cd.hasDict = true) (ha : W.findIn K (.ref C) name = some none)
    (hq : ∀ h' tk', (∀ b o, b ≠ dx → hp.get? b = some o → h'.get? b = some o) → h'.Ns1 dx (fun y => if y = name then some v else m0 y) → R (.ok (.ret .none)) ⟨h', g, d, tk', os⟩) :
    codeAny (model prog w) A (.call (.builtin "object.__setattr__") ⟨[.ref x, .str name tk, v], []⟩) R ⟨hp, g, d, t, os⟩ := by
  obtain ⟨oD, esD, epD, atD, isD, _⟩ := hns.count hw
  have I : W.InstAt hp x { cls := .ref C, dict := some dx, data := .fields fv } C (some oD) := ⟨hx, rfl, rfl, atD⟩
  have cl : W.Looks (model prog w) hp (classData C) cd := W.looks_clsIn X hcd
  apply to_own SB hB hO X I hcd hm ha
  rcases cd with ⟨n1, n2, n3, n4, n5, n6, n7, n8, n9, n10, n11⟩
  cases (show n6 = true from hh)
  unfold storeInOwnDict ownDictForStores
  repeat (first | with_reducible refine OEX.store_in_old hns hw hz ?_ | with_reducible refine wpAny_loadPart_at hx ?_ | with_reducible refine cl.at ?_ | wp_step)
  intro h' tk' named but
  exact hq h' tk' (fun b o hb ho => (but.2 b hb).trans ho) named

/-! ### C(.., k = ..) of an error class with an __init__ of its own -/
theorem made (FB : ExcBaseFacts B newId initId bmB) (hT : ∀ X : String, bm.contains (.type X) = bmB.contains (.type X)) {rest : List Value} {kw : List (Str × Value)} {fI : Addr}
    (hC : hp.get? C = some (excClassObj nm q C N bs bm hdct sn sub ab col dd k0 k1 k2 k3 k5 newId))
    (hi : W.Looks (model prog w) hp (typeLookup (.ref C) "__init__") (some (.ref fI))) (hb : ∀ self, W.Looks (model prog w) hp (bindSpecial (.ref fI) self) (.ref fI, [self])) (hrest : rest.length ≤ sizeLine)
    (hq : codeAny (model prog w) (A.under (.builtin "type.__call__" ⟨.ref C :: rest, kw⟩)) (.call (.ref fI) ⟨.ref (hp.objs.size + 1) :: rest, kw⟩) (W.InitBack (hp.objs.size + 1) R)
      ⟨(hp.push (W.kdv_tup rest)).push (excO C hp.objs.size), g, d, t, os⟩) :
    codeAny (model prog w) A (.call (.ref C) ⟨rest, kw⟩) R ⟨hp, g, d, t, os⟩ := by
  have f1 := tc_lookup
  have f2 := tc_bind (.ref C)
  have isC : (⟨hp, g, d, t, os⟩ : Shared).TypeIs (.ref C) "type" := ⟨_, hC, rfl⟩
  have kept : ∀ b o, hp.get? b = some o → ((hp.push (W.kdv_tup rest)).push (excO C hp.objs.size)).get? b = some o := fun b o e => Heap.get?_push_of_some _ (Heap.get?_push_of_some _ e)
  have inB : (Value.ref C :: bm).contains (.type B) = true := by rw [List.contains_cons, hT, FB.hasB, Bool.or_true]
  have noA : (Value.ref C :: bm).contains (.type "AttributeError") = false := by rw [List.contains_cons, hT, FB.noAttr]; rfl
  have noN : (Value.ref C :: bm).contains (.type "NameError") = false := by rw [List.contains_cons, hT, FB.noName]; rfl
  have inC : (Value.ref C :: bm).contains (.ref C) = true := by simp
  have ends := FB.ends
  have star := FB.noStar
  apply codeAny_of_tree
  show wpAny _ _ (callAny (.ref C) _) _ _ _
  repeat (any_goals (first | assumption | with_reducible refine wpAny_loadPart_at hC ?_ | wp_step))
  refine ⟨rfl, ?_⟩
  apply codeAny_call_builtin_at (Code.quiet_builtin _ (by decide +kernel)) entry_typeCall
  apply wpAny_check_type_call_sub hC
  repeat (first | with_reducible refine wpAny_loadPart_at hC ?_ | with_reducible refine wpAny_madeBy_exc hC ?_ | wp_step)
  apply codeAny_call_builtin_code (Code.quiet_builtin _ FB.quiet)
  simp only [checkBuiltinCall, FB.newKind, FB.newSplit, FB.newRow]
  repeat (first | refine wpAny_loadPart_at hC ?_ | (refine wpAny_isSubtype_exc hC ?_; rw [inB]) | refine wpAny_staticBase_exc hC ?_ | refine wpAny_madeBy_exc hC ?_ | simp only [bne_self_eq_false, Bool.false_eq_true, if_false] | wp_step)
  show codeAny _ _ (Code.builtin newId { pos := Value.ref C :: rest, kw := kw }) _ _
  refine codeAny_builtinAt FB.entry ?_
  unfold Builtin.«BaseException.__new__»
  apply wpAt_bind
  show wpAt _ _ _ (stack >>= _) _ _ _
  refine wpAt_bind (wpAt_stack fun p below => wpAt_of_wpAny ?_)
  wp_walk
  apply wpAt_of_wpAny
  rw [FB.owner]
  repeat (first | with_reducible refine wpAny_madeHere_exc FB.canon hC ?_ | with_reducible refine wpAny_loadPart_at hC ?_ | (with_reducible refine wpAny_isSubtype_exc hC ?_; first | rw [inB] | rw [noA] | rw [noN]) | wp_step)
  show wpAny _ _ _ _ _ _
  rw [Heap.size_push]
  have hC₁ := kept _ _ hC
  have new : ((hp.push (W.kdv_tup rest)).push (excO C hp.objs.size)).get? (hp.objs.size + 1) = some (excO C hp.objs.size) := by heap_get
  have i1 := hi.keeps kept
  have b1 := (hb (.ref (hp.objs.size + 1))).keeps kept
  show wpAny _ _ (isSubtype (.ref C) (.ref C)) _ _ ⟨(hp.push (W.kdv_tup rest)).push (excO C hp.objs.size), g, d, t, os⟩
  refine wpAny_isSubtype_exc hC₁ ?_
  rw [inC]
  repeat (first | with_reducible refine wpAny_loadPart_at new ?_ | wp_step)
  show wpAny _ _ (typeLookup (.ref C) _) _ _ _
  apply i1.at
  apply wpAny_holding
  apply wpAny_bind
  apply b1.at
  apply wpAny_bind
  apply wpAny_call
  refine codeAny_mono hq fun r s' z => ?_
  rcases r with e | (v | _ | _ | _) <;> first | exact z | exact z.elim | skip
  obtain ⟨rfl, z⟩ := z
  first
    | exact wpAny_pure (wpAny_pure z)
    | (wp_walk; exact z)
end
end GX
end PySem
set_option maxHeartbeats 4000000
namespace GL
open PySem PySem.Spec PyProof.Rows L2
/-! ### the hook: the library's facts, and any Bool over the written part, the table of modules in it -/
def kOf (n : Nat) (g : Addr → Option Obj) : PySem.W.Frag := He.frG g (sysModules :: He.asD g n)
abbrev AlX : Type := He.AlD × Bool
def obsX (n : Nat) (fa : List He.Fa) (fn : List He.DefD) (ex : PySem.W.Frag → Bool) (g : Addr → Option Obj) : AlX := (He.obsD fa fn (kOf n g), ex (kOf n g))
def hookX (n : Nat) (fa : List He.Fa) (fn : List He.DefD) (ex : PySem.W.Frag → Bool) : PySem.W.Hook where
  α := AlX
  obs := fun s => obsX n fa fn ex s.heap.get?
  val := fun _ => (He.valD fn, true)
  says := fun _ h => ∃ K : PySem.W.Frag, K.In h ∧ He.SaysD fa fn K ∧ ex K = true
  of := fun _ _ e => ⟨_, He.frG_in, congrArg (fun z : AlX => z.1) e, congrArg (fun z : AlX => z.2) e⟩
  keeps := fun _ _ _ ⟨K, hK, c⟩ k => ⟨K, PySem.W.Frag.In.keeps hK k, c⟩
theorem obsX_eq {n : Nat} {fa : List He.Fa} {fn : List He.DefD} {ex : PySem.W.Frag → Bool} {g : Addr → Option Obj} {s : Shared} (h : ∀ a, g a = s.heap.get? a) : obsX n fa fn ex g = (hookX n fa fn ex).obs s := by
  have e : g = s.heap.get? := funext h
  rw [e]
  rfl
def sysB (K : PySem.W.Frag) : Bool := match K.lookup sysModules with
  | some ⟨_, _, .dict _ _, _⟩ => true
  | _ => false
theorem sysB_ok {K : PySem.W.Frag} (h : sysB K = true) : SysK K := by
  unfold sysB at h
  cases q : K.lookup sysModules with
  | none =>
    rw [q] at h
    cases h
  | some o =>
    obtain ⟨c, dd, dt, sl⟩ := o
    rw [q] at h
    cases dt with
    | dict es ep => exact ⟨_, es, ep, q, rfl⟩
    | _ => cases h

/-! ### classes of errors -/
inductive EB where
  | ve | le | re
  deriving DecidableEq
def EB.name : EB → String
  | .ve => "ValueError"
  | .le => "LookupError"
  | .re => "RuntimeError"
def EB.new : EB → String
  | .ve => "ValueError.__new__"
  | .le => "LookupError.__new__"
  | .re => "RuntimeError.__new__"
def EB.tail (b : EB) : List Value := [.type b.name, .type "Exception", .type "BaseException", .type "object"]
theorem EB.base (b : EB) : ∃ i, ExcBaseFacts b.name b.new i b.tail := by
  cases b with
  | ve => exact ⟨_, PySem.F.excBase_ValueError⟩
  | le => exact ⟨_, PySem.F.excBase_LookupError⟩
  | re => exact ⟨_, PySem.F.excBase_RuntimeError⟩
theorem EB.store (b : EB) : StoreFacts b.name b.tail "object.__setattr__" "object" := by
  cases b with
  | ve => exact PySem.F.store_ValueError
  | le => exact PySem.F.store_LookupError
  | re => exact PySem.F.store_RuntimeError
theorem EB.obj (b : EB) : b.tail.contains (.type "object") = true := by cases b <;> decide +kernel
/-- what the written part says of a class of errors -/
structure XC (K : PySem.W.Frag) (C : Addr) (b : EB) : Prop where
  cls : ∃ nm q N bs bm sn sub ab col dd k0 k1 k2 k3 k5, K.lookup C = some (excClassObj nm q C N bs bm true sn sub ab col dd k0 k1 k2 k3 k5 b.new) ∧ PySem.W.excTail b.tail bm = true
  sa : PySem.W.findIn K (.ref C) "__setattr__" = some (some (.builtin "object.__setattr__"))
  ga : PySem.W.findIn K (.ref C) "__getattribute__" = some (some (.builtin "BaseException.__getattribute__"))
  gg : PySem.W.findIn K (.ref C) "__getattr__" = some none
  kl : PySem.W.findIn K (.ref C) "__class__" = some (some (.builtin "object.__class__"))
  exB : PySem.W.subIn K (.ref C) (.type "BaseException") = some true
  ob : PySem.W.mroIn K C (.type "object") = some true
  keep : PySem.W.keepIn K (.ref C) = true
def xcB (K : PySem.W.Frag) (C : Addr) (b : EB) : Bool :=
  (match K.lookup C with
  | some ⟨.type "type", _, .cls cd, sl⟩ => (match cd.mro, sl.toList with
    | .ref C' :: bm, [_, _, _, _, some (.builtin n), _] => C' == C && (n == b.new && (!cd.hasDel && (cd.hasDict && PySem.W.excTail b.tail bm)))
    | _, _ => false)
  | _ => false) &&
  (He.eqO (PySem.W.findIn K (.ref C) "__setattr__") (some (some (.builtin "object.__setattr__"))) && (He.eqO (PySem.W.findIn K (.ref C) "__getattribute__") (some (some (.builtin "BaseException.__getattribute__"))) &&
  (He.eqO (PySem.W.findIn K (.ref C) "__getattr__") (some none) && (He.eqO (PySem.W.findIn K (.ref C) "__class__") (some (some (.builtin "object.__class__"))) &&
  (decide (PySem.W.subIn K (.ref C) (.type "BaseException") = some true) && (decide (PySem.W.mroIn K C (.type "object") = some true) && PySem.W.keepIn K (.ref C)))))))
theorem xcB_ok {K : PySem.W.Frag} {C : Addr} {b : EB} (h : xcB K C b = true) : XC K C b := by
  obtain ⟨h0, h⟩ := He.ba h
  obtain ⟨h1, h⟩ := He.ba h
  obtain ⟨h2, h⟩ := He.ba h
  obtain ⟨h3, h⟩ := He.ba h
  obtain ⟨h4, h⟩ := He.ba h
  obtain ⟨h5, h⟩ := He.ba h
  obtain ⟨h6, h7⟩ := He.ba h
  refine ⟨?_, He.eqO_ok h1, He.eqO_ok h2, He.eqO_ok h3, He.eqO_ok h4, of_decide_eq_true h5, of_decide_eq_true h6, h7⟩
  split at h0
  · rename_i dd cd sl ho
    split at h0
    · rename_i C' bm k0 k1 k2 k3 n k5 hm hs
      simp only [Bool.and_eq_true, beq_iff_eq, Bool.not_eq_true'] at h0
      obtain ⟨rfl, rfl, e1, e2, e3⟩ := h0
      obtain ⟨nm, bs, mro, ns, qn, hd, sn, sub, ab, col, del⟩ := cd
      dsimp only at hm e1 e2
      subst hm e1 e2
      have hsl : sl = #[k0, k1, k2, k3, some (.builtin b.new), k5] := by
        obtain ⟨l⟩ := sl
        simp only at hs
        rw [hs]
      subst hsl
      exact ⟨nm, qn, ns, bs, bm, sn, sub, ab, col, dd, k0, k1, k2, k3, k5, ho, e3⟩
    · cases h0
  · cases h0
theorem XC.data {K : PySem.W.Frag} {C : Addr} {b : EB} (T : XC K C b) : ∃ cd, PySem.W.clsIn K C = some cd ∧ PySem.W.excTail b.tail cd.mro = true ∧ cd.hasDict = true := by
  obtain ⟨nm, q, N, bs, bm, sn, sub, ab, col, dd, k0, k1, k2, k3, k5, hC, hbm⟩ := T.cls
  refine ⟨{ name := nm, bases := bs, mro := .ref C :: bm, ns := N, qualname := q, hasDict := true, slotNames := sn, subclasses := sub, abstract := ab, collection := col, hasDel := false }, ?_, hbm, rfl⟩
  unfold PySem.W.clsIn
  rw [hC]

section
variable {X : Cx} {pins : List (Addr × Obj)} {σ : L2.St} {H : Hp} {s : Shared} {a C dx : Addr} {b : EB} {f : Str} {y : V} {u : Value} {fs : List (Str × V)} {Q : Unit → Shared → Prop} {E : Value → Shared → Prop} {A : Around}
theorem put_first (T : XC X.K C b) (I : Inv X pins σ H s) (e : H a = some (exo a C none)) (hno : PySem.W.findIn X.K (.ref C) f = some none) (ry : RelV y u)
    (h : ∀ dx s', H dx = none → dx ≠ a → Inv X pins σ (upd (upd H dx (exd dx [(f, y)])) a (exo a C (some dx))) s' → Q () s') : wpAny (model X.prog X.w) A (setAttr (.ref a) f u) Q E s := by
  obtain ⟨cd, hcl, tl, hd⟩ := T.data
  obtain ⟨t1, ho⟩ := exo_at I.hok e
  rcases s with ⟨hp, g, d, t, os⟩
  refine PySem.W.set_plain I.kIn (ox := { cls := .ref C, dict := none, data := .fields #[.ref t1, .none, .none, .none, .bool false, .none] }) (od := none) ⟨ho, rfl, rfl, trivial⟩ T.sa ?_
  refine PySem.GX.store_first b.store rfl b.obj I.kIn ho hcl tl hd hno (fun h' tk' dx k dn dne hx hn => ?_)
  have newD : H dx = none := I.hok.fresh dn
  have offD : ∀ {c : Addr} {o : Obj}, hp.get? c = some o → c ≠ dx := fun q => Nat.ne_of_lt (Nat.lt_of_lt_of_le (Heap.lt_size q) dn)
  have offA : ∀ {c : Addr}, H c = none → c ≠ a := by
    rintro c n rfl
    rw [e] at n
    cases n
  refine h dx _ newD dne (I.un (t' := tk') ?_ fun c o q => ?_)
  · exact {
      keep := fun c o q n _ _ => k c o (offA n) q
      slot := fun c o q n _ _ => ⟨o.slots, k c o (offA n) q⟩
      free := fun c o q n _ => by rw [upd_ne (offA n), upd_ne (offD q)]; exact n
      there := fun c o q _ => by
        by_cases hc : c = a
        · exact ⟨_, by rw [hc]; exact hx⟩
        · exact ⟨o, k c o hc q⟩
      tups := fun c xs q => by rw [upd_ne (at_ne e q exo_tup), upd_ne (ne_of_none q newD)]; exact q
      frzs := fun c o v q => by rw [upd_ne (at_ne e q exo_frz), upd_ne (ne_of_none q newD)]; exact q
      tbls := fun c ps q => ⟨#[], by rw [upd_ne (at_ne e q exo_tbl), upd_ne (ne_of_none q newD), q]; simp⟩ }
  · by_cases hc : c = a
    · subst hc
      rw [upd_same] at q
      cases q
      exact exo_ok hx
    · rw [upd_ne hc] at q
      by_cases hd : c = dx
      · subst hd
        rw [upd_same] at q
        cases q
        exact exd_ok hn (relO_put (fs := []) ry fun g => True.intro)
      · rw [upd_ne hd] at q
        refine (I.hok c o q).stay (fun c' v hc' z => k c' v ?_ z) (fun c' hc' => ?_) (fun c' xs hc' => ?_)
        · rcases hc' with hc' | hc'
          · rw [hc']
            exact hc
          · exact at_ne e hc' exo_own
        · rw [upd_ne (at_ne e hc' exo_own), upd_ne (ne_of_none hc' newD)]
          exact hc'
        · rw [upd_ne (at_ne e hc' exo_tup), upd_ne (ne_of_none hc' newD)]
          exact hc'
theorem put_next (T : XC X.K C b) (I : Inv X pins σ H s) (e : H a = some (exo a C (some dx))) (ed : H dx = some (exd dx fs)) (hl : fs.length ≤ 900) (hno : PySem.W.findIn X.K (.ref C) f = some none) (ry : RelV y u)
    (h : ∀ s', Inv X pins σ (upd H dx (exd dx ((f, y) :: fs))) s' → Q () s') : wpAny (model X.prog X.w) A (setAttr (.ref a) f u) Q E s := by
  obtain ⟨cd, hcl, tl, hd⟩ := T.data
  obtain ⟨t1, ho⟩ := exo_at I.hok e
  obtain ⟨mA, hns, rel⟩ := exd_at I.hok ed
  have hw := within_of rel
  rcases s with ⟨hp, g, d, t, os⟩
  obtain ⟨oD, _, _, hoD, _, _⟩ := hns.count hw
  refine PySem.W.set_plain I.kIn (ox := { cls := .ref C, dict := some dx, data := .fields #[.ref t1, .none, .none, .none, .bool false, .none] }) (od := some oD) ⟨ho, rfl, rfl, hoD⟩ T.sa ?_
  refine PySem.GX.store_next b.store rfl b.obj I.kIn ho hns hw (by rw [List.length_map]; omega) hcl tl hd hno (fun h' tk' k hn => ?_)
  have hd : ∃ o, h'.get? dx = some o := by
    obtain ⟨o, _, _, e', _⟩ := hn
    exact ⟨o, e'⟩
  exact h _ (I.write (t' := tk') (x := dx) (e := dx) (o := exd dx ((f, y) :: fs)) (by rw [ed]; exact True.intro) (.inl rfl) k hd (exd_ok hn (relO_put ry rel)))
end
/-- self.f = e in an __init__ of an error -/
def tPut (K : PySem.W.Frag) (f : Str) (to te : TE) : TS := fun D σ H => te σ H fun y H1 => to σ H1 fun x H2 => ∃ (a C : Addr) (b : EB), x = .ref a ∧ XC K C b ∧ PySem.W.findIn K (.ref C) f = some none ∧
  ((H2 a = some (exo a C none) ∧ ∀ dx, H2 dx = none → dx ≠ a → D.nx σ (upd (upd H2 dx (exd dx [(f, y)])) a (exo a C (some dx)))) ∨
    ∃ (dx : Addr) (fs : List (Str × V)), H2 a = some (exo a C (some dx)) ∧ H2 dx = some (exd dx fs) ∧ fs.length ≤ 900 ∧ D.nx σ (upd H2 dx (exd dx ((f, y) :: fs))))
section
variable {X : Cx} {o e : Expr} {es : List Expr} {to te : TE} {ta : TA} {f : Str} {p p' p1 p2 pos : Pos}
theorem ps_put (ho : PE X o to) (he : PE X e te) (hs : swapsWith e (some (.Attribute o f p')) pos.line X.env = pure false := by rfl) : PS X (.Assign [.Attribute o f p'] e pos) (tPut X.K f to te) := by
  constructor
  intro pins s σ H D I h
  refine plainObj_wpAny_Assign_Attribute (thn (he.run pins s σ H _ I h) ?_) hs
  rintro v s1 ⟨y, H1, I1, r1, q1⟩
  refine thn (ho.run pins s1 σ H1 _ I1 q1) ?_
  rintro u s2 ⟨x, H2, I2, r2, a, C, b, rfl, T, hno, q⟩
  cases (show u = Value.ref a from r2)
  rcases q with ⟨ea, q⟩ | ⟨dx, fs, ea, ed, hl, q⟩
  · exact put_first T I2 ea hno r1 fun dx s' n ne J => ⟨σ, _, J, q dx n ne⟩
  · exact put_next T I2 ea ed hl hno r1 fun s' J => ⟨σ, _, J, q⟩

/-! ### an error made, as a value -/
/-- its __init__ runs with these parameters -/
def tErr (C : Addr) (sp : Sp) (t : TA) : TE := fun σ H Q => t σ H fun vs H1 => vs.length ≤ 1000 ∧ ∀ a, H1 a = none → sp (.ref a :: vs) (upd H1 a (exo a C none)) (fun v H2 => v = .non ∧ Q (.ref a) H2) E0
theorem run_err {pins : List (Addr × Obj)} {σ : L2.St} {H : Hp} {s : Shared} {Q : VK} {C fI : Addr} {b : EB} {k : Nat} {fd : FuncData} {ps : List Str} {sp : Sp} {us all : List Value} {kw : List (Str × Value)} {vs : List V} (T : XC X.K C b)
    (iC : PySem.W.findIn X.K (.ref C) "__init__" = some (some (.ref fI))) (tI : PySem.W.typeIn X.K (.ref fI) = some (.type "function")) (F1 : FnOk X.prog X.w X.K X.mg X.base CX0 k fI fd ps sp) (hr : Room (k + 1) X.A)
    (hb : ∀ (s' : Shared) (z : Value), X.K.In s'.heap → BindsTo s' fd ⟨z :: us, kw⟩ (ps.zip (z :: all))) (hl : us.length ≤ 1000) (I : Inv X pins σ H s) (r : Vals vs all)
    (h : ∀ a, H a = none → sp (.ref a :: vs) (upd H a (exo a C none)) (fun v H2 => v = .non ∧ Q (.ref a) H2) E0) :
    wpAny (model X.prog X.w) X.A (PySem.call (.ref C) us kw) (EP X pins σ Q) X.xe s := by
  obtain ⟨nm, q, N, bs, bm, sn, sub, ab, col, dd, k0, k1, k2, k3, k5, hC, hbm⟩ := T.cls
  obtain ⟨i, FB⟩ := b.base
  rcases s with ⟨hp, g, dr, tk, os⟩
  have hsz : hp.objs.size ≤ hp.objs.size + 1 := Nat.le_succ _
  have hn : H (hp.objs.size + 1) = none := I.hok.fresh hsz
  have hq := h (hp.objs.size + 1) hn
  have kk : ∀ b o, hp.get? b = some o → ((hp.push (PySem.W.kdv_tup us)).push (PySem.HandSPX.excO C hp.objs.size)).get? b = some o := fun b o e => Heap.get?_push_of_some _ (Heap.get?_push_of_some _ e)
  have hget : ((hp.push (PySem.W.kdv_tup us)).push (PySem.HandSPX.excO C hp.objs.size)).get? (hp.objs.size + 1) = some (PySem.HandSPX.excO C hp.objs.size) := by heap_get
  have J : Inv X pins σ (upd H (hp.objs.size + 1) (exo (hp.objs.size + 1) C none)) ⟨(hp.push (PySem.W.kdv_tup us)).push (PySem.HandSPX.excO C hp.objs.size), g, dr, tk, os⟩ := I.laid (t' := tk) kk hsz (exo_ok hget)
  have rr : Vals (V.ref (hp.objs.size + 1) :: vs) (Value.ref (hp.objs.size + 1) :: all) := .cons rfl r
  have small : us.length ≤ sizeLine := by
    rw [sizeLine_eq]
    omega
  refine wpAny_call (PySem.GX.made FB (fun Y => PySem.W.excTail_contains Y bm hbm) (I.kIn _ _ hC) (PySem.W.looks_findIn I.kIn iC) (fun self => PySem.W.bind_fn I.kIn self tI) small ?_)
  refine codeAny_mono (F1.run _ X.stack _ _ ⟨Value.ref (hp.objs.size + 1) :: us, kw⟩ (Value.ref (hp.objs.size + 1) :: all) _ _ E0 (hr.make C us kw) (J.env0.make C us kw) (hb _ _ J.kIn) rr hq) ?_
  intro r' s' z
  match r', z with
  | .error er, z => exact False.elim z
  | .ok .next, z => exact False.elim z
  | .ok .brk, z => exact False.elim z
  | .ok .cont, z => exact False.elim z
  | .ok (.ret u), z =>
    obtain ⟨v, H', K1, rv, rfl, q3⟩ := J.after z
    exact ⟨rv, V.ref (hp.objs.size + 1), H', K1, rfl, q3⟩
theorem pe_err {x : Str} {C fI : Addr} {b : EB} {k : Nat} {fd : FuncData} {ps : List Str} {sp : Sp} (T : XC X.K C b) (iC : PySem.W.findIn X.K (.ref C) "__init__" = some (some (.ref fI))) (tI : PySem.W.typeIn X.K (.ref fI) = some (.type "function"))
    (F1 : FnOk X.prog X.w X.K X.mg X.base CX0 k fI fd ps sp) (hr : Room (k + 1) X.A) (hb : Binds X.K fd ps []) (hg : Gl X x) (hm : X.mg x = some (.ref C)) (ha : PA X (e :: es) ta)
    (hdb : (x == ("__debug__" : Str)) = false := by decide) (he : starEach (e :: es) X.env = (false, eval e X.env) :: starEach es X.env := by rfl) (hpl : (backTo pos (starEach es X.env)).any (·.1) = false := by rfl) :
    PE X (.Call (.Name x p) (e :: es) [] pos) (tErr C sp ta) := by
  constructor
  intro pins s σ H Q I h
  apply wpAny_Call_Name_kw
  refine ld_glob I hg hm ?_ hdb
  refine PySem.W.callWith_K (h₀ := X.base) I.ok.mod.kin T.keep (thn (ha.run pos pins s σ H _ I h) ?_) he hpl
  rintro us s1 ⟨vs, H1, I1, r1, hz, q1⟩
  refine ⟨I1.kIn, run_err T iC tI F1 hr (all := us) (fun s' z kin => ?_) (by show us.length ≤ 1000; rw [← Paired.length r1]; exact hz) I1 r1 q1⟩
  have l := F1.len _ _ _ _ (q1 s1.heap.objs.size (I1.hok.fresh (Nat.le_refl _)))
  have b := hb s' (z :: us) kin (by rw [List.append_nil, ← l, List.length_cons, List.length_cons, Paired.length r1])
  simpa using b
end

/-! ### an error's field, isinstance of an error -/
/-- an error of the class at C with these fields -/
def ErrAt (H : Hp) (e C : Addr) (fs : List (Str × V)) : Prop := (fs = [] ∧ H e = some (exo e C none)) ∨ ∃ d, H e = some (exo e C (some d)) ∧ H d = some (exd d fs)
theorem ErrAt.same {H H' : Hp} {e C : Addr} {fs : List (Str × V)} (h : ErrAt H e C fs) (k : Same H H') : ErrAt H' e C fs := by
  rcases h with ⟨rfl, a⟩ | ⟨d, a, b⟩
  · exact .inl ⟨rfl, k _ _ a⟩
  · exact .inr ⟨d, k _ _ a, k _ _ b⟩
theorem ErrAt.inst {X : Cx} {pins : List (Addr × Obj)} {σ : L2.St} {H : Hp} {s : Shared} {e C : Addr} {fs : List (Str × V)} (I : Inv X pins σ H s) (h : ErrAt H e C fs) : ∃ ox od, PySem.W.InstAt s.heap e ox C od ∧ ∀ f v, fs.lookup f = some v → ∃ u oD, od = some oD ∧ RelV v u ∧ PySem.W.lookIn f oD = some (some u) := by
  rcases h with ⟨rfl, a⟩ | ⟨d, a, b⟩
  · obtain ⟨t, ho⟩ := exo_at I.hok a
    exact ⟨_, none, ⟨ho, rfl, rfl, trivial⟩, fun f v z => nomatch z⟩
  · obtain ⟨t, ho⟩ := exo_at I.hok a
    obtain ⟨mA, hns, hr⟩ := exd_at I.hok b
    obtain ⟨oD, hD, hl⟩ := lookIn_ns hns
    refine ⟨_, some oD, ⟨ho, rfl, rfl, hD⟩, fun f v z => ?_⟩
    obtain ⟨u, hu, ru⟩ := RelO.some_of (v := v) (o := mA f) (by rw [← z]; exact hr f)
    exact ⟨u, oD, rfl, ru, by rw [hl, hu]⟩
def tErrFld (K : PySem.W.Frag) (te : TE) (f : Str) : TE := fun σ H Q => te σ H fun x H1 => ∃ (a C : Addr) (b : EB) (fs : List (Str × V)) (v : V), x = .ref a ∧ XC K C b ∧ PySem.W.findIn K (.ref C) f = some none ∧ ErrAt H1 a C fs ∧ fs.lookup f = some v ∧ Q v H1
theorem pe_errfld {X : Cx} {e : Expr} {te : TE} {f : Str} {pos : Pos} (he : PE X e te) (hb : attributeBase e f X.env (eval e X.env) = eval e X.env := by rfl) : PE X (.Attribute e f pos) (tErrFld X.K te f) := by
  constructor
  intro pins s σ H Q I h
  refine attr_of hb (thn (he.run pins s σ H _ I h) ?_)
  rintro u s1 ⟨x, H1, I1, rx, a, C, b, fs, v, rfl, T, no, ea, l, q⟩
  cases (show u = Value.ref a from rx)
  obtain ⟨ox, od, J, look⟩ := ea.inst I1
  obtain ⟨u, oD, rfl, ru, hl⟩ := look f v l
  obtain ⟨cd, hcl, _, hd⟩ := T.data
  have hdct : PySem.W.hasDictIn X.K C = true := by
    unfold PySem.W.hasDictIn
    rw [hcl]
    exact hd
  exact HandSPX.exc_get I1.kIn J T.ga T.gg T.exB (PySem.W.findObj_own hdct no rfl hl) (handed_of ru) ⟨v, H1, I1.tok _, ru, q⟩
def rErrIs (K : PySem.W.Frag) : List V → Hp → VK → Prop := fun xs H Q => ∃ (a C : Addr) (b : EB) (fs : List (Str × V)) (c : V) (cv : Value) (k : Bool), xs = [.ref a, c] ∧ XC K C b ∧ ErrAt H a C fs ∧ ClsV c cv ∧ PySem.W.kitOne K (.ref C) cv = some k ∧ Q (.bl k) H
theorem call_errIs {X : Cx} (hn : PySem.W.specialIn X.K (.builtin "object.__class__") "__get__" = some (some (.builtin "getset_descriptor.__get__"))) (ht : PySem.W.takesIn X.K (.builtin "object.__class__") = some true) : CallR X (.builtin "isinstance") (rErrIs X.K) := by
  intro pins s σ H xs us Q I r h
  obtain ⟨a, C, b, fs, c, cv, k, rfl, T, ea, hc, e, q⟩ := h
  obtain ⟨u1, u2, rfl, r1, r2⟩ := vals2 r
  cases (show u1 = Value.ref a from r1)
  cases hc.eq r2
  obtain ⟨ox, od, J, _⟩ := ea.inst I
  obtain ⟨cd, hcl, _, _⟩ := T.data
  exact PySem.W.kia_one (PySem.W.kitx_exc (by rw [hcl]; rfl) T.ga T.gg T.exB T.kl hn ht T.ob) I.kIn J e (fun z => nomatch z) fun tk => ⟨.bl k, H, I.tok tk, rfl, q⟩
end GL
set_option maxHeartbeats 4000000
namespace GL
open PySem PySem.Spec PyProof.Rows L2
theorem PE.imp {X : Cx} {e : Expr} {t t' : TE} (h : PE X e t) (k : ∀ σ H Q, t' σ H Q → t σ H Q) : PE X e t' := ⟨fun pins s σ H Q I q => h.run pins s σ H Q I (k σ H Q q)⟩
theorem PA.imp {X : Cx} {es : List Expr} {t t' : TA} (h : PA X es t) (k : ∀ σ H Q, t' σ H Q → t σ H Q) : PA X es t' := ⟨fun pos pins s σ H Q I q => h.run pos pins s σ H Q I (k σ H Q q)⟩
theorem fun_of {K : PySem.W.Frag} {x q : Str} {st : Stmt} {kws : List (Str × V)} {f : Addr} {fd : FuncData} (F : FunD K x q (defArgs st) (defBody st) (defScope st) [] kws f fd) : L2.Fun K x q st f fd := by
  obtain ⟨⟨oc, od, dV, kV, doc, pm, an, cdv, ct, osl, e, lk, hcd, hD, hK⟩, kp⟩ := F
  rcases hD with ⟨_, rfl⟩ | ⟨z, _⟩
  · exact ⟨⟨oc, od, kV, doc, pm, an, cdv, ct, osl, e, lk, hcd⟩, kp⟩
  · exact absurd rfl z
/-- C(k = v, ..) of an error: its parameters' values are all, by the keywords' -/
def tErrK (C : Addr) (sp : Sp) (g : List V → List V) (t : TA) : TE := fun σ H Q => t σ H fun zs H1 => ∀ a, H1 a = none → sp (.ref a :: g zs) (upd H1 a (exo a C none)) (fun v H2 => v = .non ∧ Q (.ref a) H2) E0
section
variable {X : Cx} {p pos : Pos} {kws : List Keyword} {tk : TA} {x : Str} {C fI : Addr} {b : EB} {k : Nat} {fd : FuncData} {ps ks : List Str} {sp : Sp}
theorem pe_errK {gV : List V → List V} {gU : List Value → List Value} (T : XC X.K C b) (iC : PySem.W.findIn X.K (.ref C) "__init__" = some (some (.ref fI))) (tI : PySem.W.typeIn X.K (.ref fI) = some (.type "function")) (F1 : FnOk X.prog X.w X.K X.mg X.base CX0 k fI fd ps sp)
    (hr : Room (k + 1) X.A) (hb : ∀ (s : Shared) (z : Value) (us : List Value), us.length = ks.length → BindsTo s fd ⟨[z], ks.zip us⟩ (ps.zip (z :: gU us))) (hg : Gl X x) (hm : X.mg x = some (.ref C)) (hkw : PK X kws tk)
    (hrel : ∀ {zs : List V} {us : List Value}, Vals zs us → Vals (gV zs) (gU us)) (hlen : ∀ {σ : L2.St} {H : Hp} {Q : List V → Hp → Prop}, tk σ H Q → tk σ H fun zs H' => zs.length = ks.length ∧ Q zs H')
    (hall : (backToKw pos (keywordEach kws X.env)).all (·.1.isSome) = true := by rfl) (hks : (backToKw pos (keywordEach kws X.env)).filterMap (·.1) = ks := by rfl) (hdb : (x == ("__debug__" : Str)) = false := by decide)
    (hpl : ((backTo pos (starEach [] X.env)).any (·.1) || (backToKw pos (keywordEach kws X.env)).any (·.1.isNone)) = false := by rfl) :
    PE X (.Call (.Name x p) [] kws pos) (tErrK C sp gV tk) := by
  constructor
  intro pins s σ H Q I h
  apply wpAny_Call_Name_kw
  refine ld_glob I hg hm ?_ hdb
  refine PySem.W.callWith_KW0 (h₀ := X.base) I.ok.mod.kin T.keep hall ?_ hpl
  refine thn (hkw.run pos pins s σ H _ I (hlen h)) ?_
  rintro ws s2 ⟨zs, H2, I2, rz, lz, q⟩
  refine ⟨I2.kIn, ?_⟩
  rw [hks]
  exact run_err (us := []) T iC tI F1 hr (fun s' z _ => hb s' z ws (by rw [← Paired.length rz]; exact lz)) (Nat.zero_le _) I2 (hrel rz) q
end
/-- C() of an error class without an __init__ of its own -/
theorem pe_err0 {X : Cx} {C : Addr} {b : EB} {x : Str} {p pos : Pos} (q : PySem.W.excIn X.K C b.tail b.new = true) (gC : X.mg x = some (.ref C)) (kC : PySem.W.keepIn X.K (.ref C) = true) (hg : Gl X x) (hdb : (x == ("__debug__" : Str)) = false := by decide) :
    PE X (.Call (.Name x p) [] [] pos) (fun σ H Q => ∀ a, H a = none → Q (.ref a) (upd H a (exo a C none))) := by
  constructor
  intro pins s σ H Q I h
  apply wpAny_Call_Name_kw
  refine ld_glob I hg gC ?_ hdb
  apply PySem.W.callWith_K0 I.kIn kC
  obtain ⟨i, FB⟩ := b.base
  rcases s with ⟨hp, g, d, t, os⟩
  obtain ⟨bm, N, nm, qn, bs, hdct, sn, sub, ab, col, dd, k0, k1, k2, k3, k5, mN, hC, hN, hni, T⟩ := exc_obj I.kIn q
  refine wpAny_call_exc_subT FB T hC hN hni (fun h' a hm => ?_) (by show 0 ≤ sizeLine; exact Nat.zero_le _)
  have hn : H a = none := I.hok.gone hm.new
  obtain ⟨t, ht, _, _⟩ := hm.there
  exact ⟨.ref a, upd H a (exo a C none), I.laidN hm.keeps hm.new hn (exo_ok ht), rfl, h a hn⟩

/-! ### an __init__ that stores its parameters -/
def spInit (C : Addr) (fl : List Str) : Sp := fun vs H Q _ => ∃ (a : Addr) (ys : List V), vs = .ref a :: ys ∧ ys.length = fl.length ∧ H a = some (exo a C none) ∧
  ∀ dx H', H dx = none → dx ≠ a → H' a = some (exo a C (some dx)) → H' dx = some (exd dx (fl.zip ys).reverse) → (∀ b o, H b = some o → b ≠ a → H' b = some o) → Q .non H'
section
variable {P : Program} {w : World} {K : PySem.W.Frag} {mg : Str → Option Value} {base : Heap} {st : Stmt} {qual f1 f2 f3 : Str} {C fI : Addr} {b : EB} {fd : FuncData} {q1 q2 q3 q4 r1 r2 r3 r4 z1 z2 z3 z4 : Pos}
theorem swap_name {n : Str} {pp : Pos} {o : Option Expr} {l : Nat} {env : Env} : swapsWith (.Name n pp) o l env = pure false := by rfl
theorem ok_init1 (F : L2.Fun K "__init__" qual st fI fd) (T : XC K C b) (n1 : PySem.W.findIn K (.ref C) f1 = some none) (hb : defBody st = [.Assign [.Attribute (.Name "self" q1) f1 q2] (.Name f1 q3) q4])
    (S : FnScope ["self", f1] ["self", f1] (defScope st)) (v0 : (defScope st).names.lookup ("self" : Str) = some .local) (v1 : (defScope st).names.lookup f1 = some .local) (d1 : (f1 == ("__debug__" : Str)) = false) (c1 : (f1 == ("__classdict__" : Str)) = false) :
    FnOk P w K mg base CX0 1 fI fd ["self", f1] (spInit C [f1]) := by
  refine F.ok S (fun vs H Q E h => ?_) (fun cdv A outer s H vs Q E hr h => ?_)
  · obtain ⟨a, ys, rfl, l, _⟩ := h
    exact congrArg Nat.succ l
  · obtain ⟨a, ys, rfl, l, ha, k⟩ := h
    rw [hb]
    match ys, l with
    | [y], _ =>
      refine ⟨_, pss_one (ps_put (pe_var (i := 0) rfl (.inl v0)) (pe_var (i := 1) rfl (.inl v1) d1 c1) swap_name), ?_⟩
      refine ⟨y, rfl, .ref a, rfl, a, C, b, rfl, T, n1, .inl ⟨ha, fun dx hd hne => ?_⟩⟩
      exact k dx _ hd hne upd_same (by rw [upd_ne hne]; exact upd_same) fun c o e hc => by rw [upd_ne hc, upd_ne (ne_of_none e hd)]; exact e
theorem ok_init2 (F : L2.Fun K "__init__" qual st fI fd) (T : XC K C b) (n1 : PySem.W.findIn K (.ref C) f1 = some none) (n2 : PySem.W.findIn K (.ref C) f2 = some none)
    (hb : defBody st = [.Assign [.Attribute (.Name "self" q1) f1 q2] (.Name f1 q3) q4, .Assign [.Attribute (.Name "self" r1) f2 r2] (.Name f2 r3) r4])
    (S : FnScope ["self", f1, f2] ["self", f1, f2] (defScope st)) (v0 : (defScope st).names.lookup ("self" : Str) = some .local) (v1 : (defScope st).names.lookup f1 = some .local) (v2 : (defScope st).names.lookup f2 = some .local)
    (d1 : (f1 == ("__debug__" : Str)) = false) (c1 : (f1 == ("__classdict__" : Str)) = false) (d2 : (f2 == ("__debug__" : Str)) = false) (c2 : (f2 == ("__classdict__" : Str)) = false) :
    FnOk P w K mg base CX0 1 fI fd ["self", f1, f2] (spInit C [f1, f2]) := by
  refine F.ok S (fun vs H Q E h => ?_) (fun cdv A outer s H vs Q E hr h => ?_)
  · obtain ⟨a, ys, rfl, l, _⟩ := h
    exact congrArg Nat.succ l
  · obtain ⟨a, ys, rfl, l, ha, k⟩ := h
    rw [hb]
    match ys, l with
    | [y, z], _ =>
      refine ⟨_, pss_cons (ps_put (pe_var (i := 0) rfl (.inl v0)) (pe_var (i := 1) rfl (.inl v1) d1 c1) swap_name) (pss_one (ps_put (pe_var (i := 0) rfl (.inl v0)) (pe_var (i := 2) rfl (.inl v2) d2 c2) swap_name)), ?_⟩
      refine ⟨y, rfl, .ref a, rfl, a, C, b, rfl, T, n1, .inl ⟨ha, fun dx hd hne => ?_⟩⟩
      refine ⟨z, rfl, .ref a, rfl, a, C, b, rfl, T, n2, .inr ⟨dx, _, upd_same, (by rw [upd_ne hne]; exact upd_same), (by show 1 ≤ 900; decide), ?_⟩⟩
      exact k dx _ hd hne (by rw [upd_ne hne.symm]; exact upd_same) upd_same fun c o e hc => by rw [upd_ne (ne_of_none e hd), upd_ne hc, upd_ne (ne_of_none e hd)]; exact e
theorem ok_init3 (F : L2.Fun K "__init__" qual st fI fd) (T : XC K C b) (n1 : PySem.W.findIn K (.ref C) f1 = some none) (n2 : PySem.W.findIn K (.ref C) f2 = some none) (n3 : PySem.W.findIn K (.ref C) f3 = some none)
    (hb : defBody st = [.Assign [.Attribute (.Name "self" q1) f1 q2] (.Name f1 q3) q4, .Assign [.Attribute (.Name "self" r1) f2 r2] (.Name f2 r3) r4, .Assign [.Attribute (.Name "self" z1) f3 z2] (.Name f3 z3) z4])
    (S : FnScope ["self", f1, f2, f3] ["self", f1, f2, f3] (defScope st)) (v0 : (defScope st).names.lookup ("self" : Str) = some .local) (v1 : (defScope st).names.lookup f1 = some .local) (v2 : (defScope st).names.lookup f2 = some .local) (v3 : (defScope st).names.lookup f3 = some .local)
    (d1 : (f1 == ("__debug__" : Str)) = false) (c1 : (f1 == ("__classdict__" : Str)) = false) (d2 : (f2 == ("__debug__" : Str)) = false) (c2 : (f2 == ("__classdict__" : Str)) = false) (d3 : (f3 == ("__debug__" : Str)) = false) (c3 : (f3 == ("__classdict__" : Str)) = false) :
    FnOk P w K mg base CX0 1 fI fd ["self", f1, f2, f3] (spInit C [f1, f2, f3]) := by
  refine F.ok S (fun vs H Q E h => ?_) (fun cdv A outer s H vs Q E hr h => ?_)
  · obtain ⟨a, ys, rfl, l, _⟩ := h
    exact congrArg Nat.succ l
  · obtain ⟨a, ys, rfl, l, ha, k⟩ := h
    rw [hb]
    match ys, l with
    | [y, z, u], _ =>
      refine ⟨_, pss_cons (ps_put (pe_var (i := 0) rfl (.inl v0)) (pe_var (i := 1) rfl (.inl v1) d1 c1) swap_name) (pss_cons (ps_put (pe_var (i := 0) rfl (.inl v0)) (pe_var (i := 2) rfl (.inl v2) d2 c2) swap_name)
        (pss_one (ps_put (pe_var (i := 0) rfl (.inl v0)) (pe_var (i := 3) rfl (.inl v3) d3 c3) swap_name))), ?_⟩
      refine ⟨y, rfl, .ref a, rfl, a, C, b, rfl, T, n1, .inl ⟨ha, fun dx hd hne => ?_⟩⟩
      refine ⟨z, rfl, .ref a, rfl, a, C, b, rfl, T, n2, .inr ⟨dx, _, upd_same, (by rw [upd_ne hne]; exact upd_same), (by show 1 ≤ 900; decide), ?_⟩⟩
      refine ⟨u, rfl, .ref a, rfl, a, C, b, rfl, T, n3, .inr ⟨dx, _, (by rw [upd_ne hne.symm]; exact upd_same), upd_same, (by show 2 ≤ 900; decide), ?_⟩⟩
      exact k dx _ hd hne (by rw [upd_ne hne.symm, upd_ne hne.symm]; exact upd_same) upd_same fun c o e hc => by rw [upd_ne (ne_of_none e hd), upd_ne (ne_of_none e hd), upd_ne hc, upd_ne (ne_of_none e hd)]; exact e
end
/-- an error made, told in whole: what was tracked stands, its fields are as its __init__ stores them -/
theorem init_made {C : Addr} {fl : List Str} {H1 : Hp} {Q : VK} {x : Addr} {ys : List V} (hx : H1 x = none) (hl : ys.length = fl.length) (q : ∀ (e : Addr) (H' : Hp), Same H1 H' → H1 e = none → ErrAt H' e C (fl.zip ys).reverse → Q (.ref e) H') :
    spInit C fl (.ref x :: ys) (upd H1 x (exo x C none)) (fun v H2 => v = .non ∧ Q (.ref x) H2) E0 := by
  refine ⟨x, ys, rfl, hl, upd_same, fun dx H' hd hne ha hdx kp => ⟨rfl, q x H' (fun b o e => ?_) hx (.inr ⟨dx, ha, hdx⟩)⟩⟩
  have hb : b ≠ x := ne_of_none e hx
  exact kp b o (by rw [upd_ne hb]; exact e) hb
end GL
set_option maxHeartbeats 4000000
namespace GL
open PySem PySem.Spec PyProof.Rows L2
theorem same_sqT {K : PySem.W.Frag} {H H' : Hp} {a : Addr} {xs : List V} (e : Same H H') (h : SqT K H a xs) : SqT K H' a xs := by
  rcases h with (h | ⟨o, h⟩) | h
  · exact .inl (.inl (e _ _ h))
  · exact .inl (.inr ⟨o, e _ _ h⟩)
  · exact .inr h
mutual
theorem Dq.same {K : PySem.W.Frag} {H H' : Hp} (e : Same H H') : ∀ {v : V} {d : PyData}, Dq K H v d → Dq K H' v d
  | _, _, .non => .non
  | _, _, .bl b => .bl b
  | _, _, .int i => .int i
  | _, _, .str x => .str x
  | _, _, .lst h a => .lst (e.seq h) (DqAll.same e a)
  | _, _, .tup h a => .tup (same_sqT e h) (DqAll.same e a)
  | _, _, .dct h a => .dct (e _ _ h) (DqKv.same e a)
theorem DqAll.same {K : PySem.W.Frag} {H H' : Hp} (e : Same H H') : ∀ {vs : List V} {ds : List PyData}, DqAll K H vs ds → DqAll K H' vs ds
  | _, _, .nil => .nil
  | _, _, .cons a b => .cons (Dq.same e a) (DqAll.same e b)
theorem DqKv.same {K : PySem.W.Frag} {H H' : Hp} (e : Same H H') : ∀ {kvs : List (Key × V)} {ps : List (PyData × PyData)}, DqKv K H kvs ps → DqKv K H' kvs ps
  | _, _, .nil => .nil
  | _, _, .consI a b => .consI (Dq.same e a) (DqKv.same e b)
  | _, _, .consS a b => .consS (Dq.same e a) (DqKv.same e b)
end
theorem paired_rev {α β : Type} {R : α → β → Prop} : ∀ {xs : List α} {ys : List β}, Paired R xs ys → Paired R xs.reverse ys.reverse := by
  have app : ∀ {xs us : List α} {ys ws : List β}, Paired R xs ys → Paired R us ws → Paired R (xs ++ us) (ys ++ ws) := by
    intro xs us ys ws h k
    induction h with
    | nil => exact k
    | cons r _ ih => exact .cons r ih
  intro xs ys h
  induction h with
  | nil => exact .nil
  | cons r _ ih =>
    rw [List.reverse_cons, List.reverse_cons]
    exact app ih (.cons r .nil)
theorem same_new {H : Hp} {p : Addr} {o : HO} (h : H p = none) : Same H (upd H p o) := fun b u e => by
  rw [upd_ne (ne_of_none e h)]
  exact e
theorem del_le {H : Hp} {p : Addr} : Same (del H p) H := fun b o e => by
  by_cases h : b = p
  · rw [h, del_same] at e
    cases e
  · rwa [del_ne h] at e
theorem del_but {H H' : Hp} {p : Addr} (k : ∀ b o, H b = some o → b ≠ p → H' b = some o) : Same (del H p) (del H' p) := fun b o e => by
  by_cases h : b = p
  · rw [h, del_same] at e
    cases e
  · rw [del_ne h] at e ⊢
    exact k b o e h
/-! ### a list comprehension whose element leaves what was tracked as it was -/
theorem take_ext {α : Type} : ∀ {l : List α} {i : Nat} {x : α}, l[i]? = some x → l.take (i + 1) = l.take i ++ [x]
  | a :: l, 0, x, h => by
    cases Option.some.inj h
    rfl
  | a :: l, i + 1, x, h => by
    have ih := take_ext (l := l) (i := i) (x := x) (by simpa using h)
    rw [List.take_succ_cons, ih, List.take_succ_cons]
    rfl
section
variable {K : PySem.W.Frag} {te : TE} {σ : L2.St} {j : Nat} {H1 : Hp} {D a : Addr} {xs : List V} {val : V → V} {Qd : Hp → Prop}
theorem lc_same (hS : SqL K H1 a xs) (hD : H1 D = none) (hl : xs.length < 1000000) (hw : ∀ x, wipe ((wipe σ [j]).set j (some x)) [j] = wipe σ [j])
    (hs : ∀ (i : Nat) (x : V) (H' : Hp) (Q : VK), xs[i]? = some x → Same H1 H' → (∀ H2, Same H' H2 → Q (val x) H2) → te ((wipe σ [j]).set j (some x)) H' Q) (hd : ∀ H', Same H1 H' → H' D = some (.lst (xs.map val)) → Qd H') :
    ∃ W : Nat → Nat → Hp → Prop, (∃ m, W 0 m (upd H1 D (.lst []))) ∧ ∀ i m H, W i m H →
      ((Itl K a).stop i H ∧ Qd H) ∨ ((Itl K a).go i H ∧ ∃ Nx : Hp → Prop, (∀ H', Nx H' → ∃ m', m' < m ∧ W (i + 1) m' H') ∧ ∀ x H', (Itl K a).yld i H x H' → gName j x (wipe σ [j]) H' fun σ2 H2 => wipe σ2 [j] = wipe σ [j] ∧ tYes σ2 H2 fun b H3 =>
        if b = true then te σ2 H3 fun y H4 => ∃ acc, H4 D = some (.lst acc) ∧ acc.length < sizeLine ∧ Nx (upd H4 D (.lst (acc ++ [y]))) else Nx H3) := by
  refine lc_list (K := K) (a := a) (xs := xs) (fun i H => H D = some (.lst ((xs.take i).map val)) ∧ Same H1 H) ⟨upd_same, same_new hD⟩ (fun i H _ ⟨_, s⟩ => s.seq hS) ?_ ?_
  · rintro i x H hi ⟨hd', s⟩
    refine ⟨hw x, ?_⟩
    show te (List.set (wipe σ [j]) j (some x)) H (fun y H4 => ∃ acc, H4 D = some (.lst acc) ∧ acc.length < sizeLine ∧ (upd H4 D (.lst (acc ++ [y])) D = some (.lst ((xs.take (i + 1)).map val)) ∧ Same H1 (upd H4 D (.lst (acc ++ [y])))))
    refine hs i x H _ hi s fun H2 s2 => ⟨_, s2 _ _ hd', ?_, ?_, fun b o e => ?_⟩
    · rw [List.length_map, List.length_take, sizeLine_eq]
      omega
    · rw [take_ext hi, List.map_append, upd_same]
      rfl
    · rw [upd_ne (ne_of_none e hD)]
      exact s2 _ _ (s _ _ e)
  · rintro H ⟨hd', s⟩
    rw [List.take_length] at hd'
    exact hd H s hd'
theorem lc_sameR {lo : Int} {n : Nat} {val : Int → V} (hD : H1 D = none) (hl : n < 1000000) (hw : ∀ x, wipe ((wipe σ [j]).set j (some x)) [j] = wipe σ [j])
    (hs : ∀ (i : Nat) (H' : Hp) (Q : VK), i < n → Same H1 H' → (∀ H2, Same H' H2 → Q (val (lo + i)) H2) → te ((wipe σ [j]).set j (some (.int (lo + i)))) H' Q) (hd : ∀ H', Same H1 H' → H' D = some (.lst ((List.range n).map fun i => val (lo + (i : Nat)))) → Qd H') :
    ∃ W : Nat → Nat → Hp → Prop, (∃ m, W 0 m (upd H1 D (.lst []))) ∧ ∀ i m H, W i m H →
      ((Itr lo n).stop i H ∧ Qd H) ∨ ((Itr lo n).go i H ∧ ∃ Nx : Hp → Prop, (∀ H', Nx H' → ∃ m', m' < m ∧ W (i + 1) m' H') ∧ ∀ x H', (Itr lo n).yld i H x H' → gName j x (wipe σ [j]) H' fun σ2 H2 => wipe σ2 [j] = wipe σ [j] ∧ tYes σ2 H2 fun b H3 =>
        if b = true then te σ2 H3 fun y H4 => ∃ acc, H4 D = some (.lst acc) ∧ acc.length < sizeLine ∧ Nx (upd H4 D (.lst (acc ++ [y]))) else Nx H3) := by
  refine lc_range (lo := lo) (n := n) (fun i H => H D = some (.lst ((List.range i).map fun i => val (lo + (i : Nat)))) ∧ Same H1 H) ⟨upd_same, same_new hD⟩ ?_ ?_
  · rintro i H hi ⟨hd', s⟩
    refine ⟨hw _, ?_⟩
    show te (List.set (wipe σ [j]) j (some (V.int (lo + i)))) H (fun y H4 => ∃ acc, H4 D = some (.lst acc) ∧ acc.length < sizeLine ∧ (upd H4 D (.lst (acc ++ [y])) D = some (.lst ((List.range (i + 1)).map fun i => val (lo + (i : Nat)))) ∧ Same H1 (upd H4 D (.lst (acc ++ [y])))))
    refine hs i H _ hi s fun H2 s2 => ⟨_, s2 _ _ hd', ?_, ?_, fun b o e => ?_⟩
    · rw [List.length_map, List.length_range, sizeLine_eq]
      omega
    · rw [List.range_succ, List.map_append, upd_same]
      rfl
    · rw [upd_ne (ne_of_none e hD)]
      exact s2 _ _ (s _ _ e)
  · rintro H ⟨hd', s⟩
    exact hd H s hd'
end
end GL
set_option maxHeartbeats 4000000
/-! Own operators of own instances. -/
namespace PySem
namespace GO
open PySem.W PySem.Calls PyProof.Rows PySem.HandSPX Builtin
section
variable {prog : Program} {w : World} {A : Around} {E : Value → Shared → Prop} {hp : Heap} {g : Array GenState} {d : Drawn} {t : Nat} {os : OsState} {K : W.Frag} {x y C f : Addr} {ox oy : Obj} {od oe : Option Obj} {b : Value} {op : Operator} {Q : Value → Shared → Prop} {cd : ClassData} {rest : List Value}
def Held (p : Prop) : Prop := p
/-- a method of an own class, tried -/
theorem try_own {nm : Str} {Q : Option Value → Shared → Prop} (X : K.In hp) (I : InstAt hp x ox C od) (hf : findIn K (.ref C) nm = some (some (.ref f))) (tf : typeIn K (.ref f) = some (.type "function"))
    (h : Held (wpAny (model prog w) A (call (.ref f) [.ref x, b]) (W.CmpBack fun v => Q (some v)) E ⟨hp, g, d, t, os⟩)) : wpAny (model prog w) A (tryMethod (.ref x) nm b) Q E ⟨hp, g, d, t, os⟩ := by
  unfold tryMethod
  apply wpAny_bind
  refine special_fn (s := ⟨hp, g, d, t, os⟩) X I hf tf (wpAny_mono h (fun v s' z => ?_) fun _ _ z => z)
  cases v <;> first | exact wpAny_pure z | exact z.elim
/-- a + b, both of one class -/
theorem bin_same (X : K.In hp) (I : InstAt hp x ox C od) (J : InstAt hp y oy C oe) (hcd : clsIn K C = some cd) (hm : cd.mro = .ref C :: rest) (hf : findIn K (.ref C) (dunder op.info.2) = some (some (.ref f))) (tf : typeIn K (.ref f) = some (.type "function"))
    (h : wpAny (model prog w) A (call (.ref f) [.ref x, .ref y]) (W.CmpBack Q) E ⟨hp, g, d, t, os⟩) : wpAny (model prog w) A (binaryOp op (.ref x) (.ref y)) Q E ⟨hp, g, d, t, os⟩ := by
  have left := fills_K (M := model prog w) (nm := op.info.2) X hcd hm hf
  unfold binaryOp
  generalize op.info = z at *
  obtain ⟨sym, nm⟩ := z
  apply wpAny_holding
  unfold binaryOp1
  apply wpAny_bind
  apply wpAny_bind
  apply I.type.at
  apply wpAny_bind
  apply J.type.at
  apply wpAny_bind
  apply left.at
  dsimp only
  rw [if_pos (beq_self_eq_true _)]
  repeat (first | with_reducible refine try_own X I hf tf ?_ | wp_step)
  refine wpAny_mono h (fun v s' z => ?_) fun _ _ z => z
  cases v <;> first | exact wpAny_pure (wpAny_pure z) | exact z.elim
/-- a + n, n a whole number -/
theorem bin_int {n : Int} {k : Tok} {ia ir : String} (X : K.In hp) (I : InstAt hp x ox C od) (hcd : clsIn K C = some cd) (hm : cd.mro = .ref C :: rest) (hf : findIn K (.ref C) (dunder op.info.2) = some (some (.ref f))) (hr : findIn K (.ref C) (dunderR op.info.2) = some none) (tf : typeIn K (.ref f) = some (.type "function"))
    (fa : findIn K (.type "int") (dunder op.info.2) = some (some (.builtin ia))) (fr : findIn K (.type "int") (dunderR op.info.2) = some (some (.builtin ir))) (sq : isSeqSlot (some (.builtin ia)) = false) (sub : subIn K (.type "int") (.ref C) = some false)
    (h : wpAny (model prog w) A (call (.ref f) [.ref x, .int n k]) (W.CmpBack Q) E ⟨hp, g, d, t, os⟩) : wpAny (model prog w) A (binaryOp op (.ref x) (.int n k)) Q E ⟨hp, g, d, t, os⟩ := by
  have left := fills_K (M := model prog w) (nm := op.info.2) X hcd hm hf
  have l1 := looks_findIn (M := model prog w) X hf
  have l2 := looks_findIn (M := model prog w) X hr
  have l3 := looks_findIn (M := model prog w) X fa
  have l4 := looks_findIn (M := model prog w) X fr
  have l5 := looks_subIn (M := model prog w) X sub
  unfold binaryOp
  generalize op.info = z at *
  obtain ⟨sym, nm⟩ := z
  apply wpAny_holding
  unfold binaryOp1 numberSlotInPython fillsNumberSlot
  apply wpAny_bind
  apply wpAny_bind
  apply I.type.at
  apply wpAny_bind
  apply wpAny_pure
  apply wpAny_bind
  apply left.at
  repeat (first | with_reducible refine try_own X I hf tf ?_ | with_reducible refine l1.at ?_ | with_reducible refine l2.at ?_ | with_reducible refine l3.at ?_ | with_reducible refine l4.at ?_ | with_reducible refine l5.at ?_ | wp_step)
  refine wpAny_mono h (fun v s' z => ?_) fun _ _ z => z
  cases v <;> first | exact wpAny_pure (wpAny_pure z) | exact z.elim
/-- -a -/
theorem neg_own (X : K.In hp) (I : InstAt hp x ox C od) (hf : findIn K (.ref C) "__neg__" = some (some (.ref f))) (tf : typeIn K (.ref f) = some (.type "function"))
    (h : wpAny (model prog w) A (call (.ref f) [.ref x]) Q E ⟨hp, g, d, t, os⟩) : wpAny (model prog w) A (unaryOp .USub (.ref x)) Q E ⟨hp, g, d, t, os⟩ := by
  unfold unaryOp
  apply wpAny_holding
  dsimp only
  rw [if_neg (by decide)]
  apply wpAny_bind
  exact special_fn (s := ⟨hp, g, d, t, os⟩) X I hf tf (wpAny_mono h (fun v s' z => wpAny_pure z) fun _ _ z => z)
end
end GO
end PySem
set_option maxHeartbeats 4000000
namespace PySem
namespace GO
open PySem.W PySem.Calls PyProof.Rows PySem.HandSPX Builtin
section
variable {prog : Program} {w : World} {A : Around} {E : Value → Shared → Prop} {hp : Heap} {g : Array GenState} {d : Drawn} {t : Nat} {os : OsState} {K : W.Frag} {x y C f : Addr} {ox oy : Obj} {od oe : Option Obj} {b tb : Value} {Q : Value → Shared → Prop}
theorem ifb {fv : Value} {nm : Str} {Q : Option Value → Shared → Prop} (X : K.In hp) (I : InstAt hp x ox C od) (hf : findIn K (.ref C) nm = some (some fv)) (hb : Looks (model prog w) hp (bindSpecial fv (.ref x)) (fv, [.ref x]))
    (h : wpAny (model prog w) A (call fv [.ref x, b]) (fun v => Q (some v)) E ⟨hp, g, d, t, os⟩) : wpAny (model prog w) A (callSpecialIfBound? (.ref x) nm [b]) Q E ⟨hp, g, d, t, os⟩ := by
  have l1 := looks_findIn (M := model prog w) X hf
  unfold callSpecialIfBound? bindSpecialIfBound? specialOf
  apply wpAny_holding
  apply wpAny_bind
  apply wpAny_bind
  apply wpAny_bind
  apply I.type.at
  apply l1.at
  dsimp only
  apply wpAny_bind
  refine wpAny_askSetting ?_
  have go : ∀ {E' : Value → Shared → Prop}, wpAny (model prog w) A (do let z ← bindSpecial fv (.ref x); pure (some z)) (fun a s' => wpAny (model prog w) A (match a with
        | some (g, first) => do
          let z ← call g (first ++ [b])
          pure (some z)
        | x => pure none) Q E s') E' ⟨hp, g, d, t, os⟩ := by
    intro E'
    apply wpAny_bind
    apply hb.at
    apply wpAny_pure
    dsimp only [List.cons_append, List.nil_append]
    apply wpAny_bind
    exact wpAny_mono h (fun v s' z => wpAny_pure z) fun _ _ z => z
  split
  · exact go
  · exact wpAny_tryCatch go
theorem try_c {fv : Value} {nm : Str} {Q : Option Value → Shared → Prop} (X : K.In hp) (I : InstAt hp x ox C od) (hf : findIn K (.ref C) nm = some (some fv)) (hb : Looks (model prog w) hp (bindSpecial fv (.ref x)) (fv, [.ref x]))
    (h : wpAny (model prog w) A (call fv [.ref x, b]) (W.CmpBack fun v => Q (some v)) E ⟨hp, g, d, t, os⟩) : wpAny (model prog w) A (tryCompare (.ref x) nm b) Q E ⟨hp, g, d, t, os⟩ := by
  unfold tryCompare
  apply wpAny_bind
  refine ifb X I hf hb (wpAny_mono h (fun v s' z => ?_) fun _ _ z => z)
  cases v <;> first | exact wpAny_pure z | exact z.elim
/-- a == b, a != b, by the class's method of this name -/
theorem cmp_any {op : CmpOp} {fv : Value} (hop : op = .Eq ∨ op = .NotEq) (hu : A.units < cLine) (X : K.In hp) (I : InstAt hp x ox C od) (hb : Looks (model prog w) hp (typeOf b) tb) (nf : notFirst K C tb = true) (he : findIn K (.ref C) (cmpInfo op).2.1 = some (some fv))
    (hbi : Looks (model prog w) hp (bindSpecial fv (.ref x)) (fv, [.ref x]))
    (h : wpAny (model prog w) A (call fv [.ref x, b]) (W.CmpBack Q) E ⟨hp, g, d, t, os⟩) : wpAny (model prog w) A (richCompare op (.ref x) b) Q E ⟨hp, g, d, t, os⟩ := by
  have no : oneThing? op (.ref x) b = none := by rcases hop with rfl | rfl <;> rfl
  unfold richCompare
  apply wpAny_holding
  apply wpAny_bind
  refine wpAny_cRoomFor hu ?_
  rw [no]
  dsimp only
  generalize hi : cmpInfo op = z at *
  obtain ⟨sym, nf', nr⟩ := z
  apply wpAny_bind
  apply I.type.at
  apply wpAny_bind
  apply hb.at
  unfold notFirst at nf
  have go : wpAny (model prog w) A (tryCompare (.ref x) nf' b) (fun o s' => o.isSome = true ∧ ∀ v, o = some v → Q v s') E ⟨hp, g, d, t, os⟩ := by
    refine try_c X I he hbi (wpAny_mono h (fun v s' z => ?_) fun _ _ z => z)
    cases v <;> first | exact ⟨rfl, fun _ q => by cases q; exact z⟩ | exact z.elim
  have fin : ∀ {k : Option Value → Sem Value}, (∀ v, k (some v) = pure v) → wpAny (model prog w) A (tryCompare (.ref x) nf' b >>= k) Q E ⟨hp, g, d, t, os⟩ := by
    intro k hk
    apply wpAny_bind
    refine wpAny_mono go (fun o s' z => ?_) fun _ _ z => z
    obtain ⟨q, z⟩ := z
    cases o with
    | none => cases q
    | some v =>
      rw [hk]
      exact wpAny_pure (z v rfl)
  split
  · rename_i ne
    simp only [Bool.or_eq_true, beq_iff_eq] at nf
    rcases nf with rfl | q
    · exact absurd ne (by simp)
    · apply wpAny_bind
      apply (looks_subIn X q).at
      dsimp only [Bool.false_eq_true, if_false]
      exact fin fun v => rfl
  · apply wpAny_bind
    apply wpAny_pure
    exact fin fun v => rfl
/-- the entry of object.__ne__ -/
theorem ne_entry (hu : A.units < cLine) (X : K.In hp) (I : InstAt hp x ox C od) (he : findIn K (.ref C) "__eq__" = some (some (.ref f))) (tf : typeIn K (.ref f) = some (.type "function")) {Q : PySem.Fin → Shared → Prop}
    (h : wpAny (model prog w) A (call (.ref f) [.ref x, b]) (fun v s' => ∃ k, v = .bool k ∧ Q (.done (.ret (.bool !k))) s') E ⟨hp, g, d, t, os⟩) :
    wpAny (model prog w) A (Builtin.«object.__ne__» { pos := [.ref x, b] }) Q E ⟨hp, g, d, t, os⟩ := by
  unfold Builtin.«object.__ne__»
  apply wpAny_bind
  have e : slotArgs "__ne__" 1 { pos := [.ref x, b] } = pure (.ref x, [b]) := rfl
  rw [e]
  apply wpAny_pure
  dsimp only
  apply wpAny_bind
  refine wpAny_cRoomFor hu ?_
  apply wpAny_bind
  refine ifb X I he (bind_fn X _ tf) (wpAny_mono h (fun v s' z => ?_) fun _ _ z => z)
  obtain ⟨k, rfl, q⟩ := z
  dsimp only
  apply wpAny_bind
  refine wpAny_truthy_bool ?_
  exact wpAny_pure q
/-- a != b, by an own __eq__ -/
theorem ne_own (hu : A.units + 1 < cLine) (X : K.In hp) (I : InstAt hp x ox C od) (hb : Looks (model prog w) hp (typeOf b) tb) (nf : notFirst K C tb = true) (hn : findIn K (.ref C) "__ne__" = some (some (.builtin "object.__ne__"))) (he : findIn K (.ref C) "__eq__" = some (some (.ref f)))
    (tf : typeIn K (.ref f) = some (.type "function")) (ob : mroIn K C (.type "object") = some true)
    (h : wpAny (model prog w) A.in1 (call (.ref f) [.ref x, b]) (fun v s' => ∃ k, v = .bool k ∧ Q (.bool !k) s') E ⟨hp, g, d, t, os⟩) : wpAny (model prog w) A (richCompare .NotEq (.ref x) b) Q E ⟨hp, g, d, t, os⟩ := by
  refine cmp_any (.inr rfl) (by omega) X I hb nf hn ?_ ?_
  · rw [PySem.F.slot_object_ne.bind]
    exact .now
  apply wpAny_call
  refine codeAny_call_builtin (by decide +kernel) (by rfl) ?_
  refine check_slot (s := ⟨hp, g, d, t, os⟩) (owner := "object") (n := "__ne__") (by decide +kernel) (by decide +kernel) ?_ (by rfl) ?_
  · exact I.type.andThen (W.looks_mroIn X ob)
  · exact ne_entry hu X I he tf h
/-- x in a, by an own __contains__ -/
theorem in_own (X : K.In hp) (I : InstAt hp x ox C od) (hf : findIn K (.ref C) "__contains__" = some (some (.ref f))) (tf : typeIn K (.ref f) = some (.type "function")) {Q : Bool → Shared → Prop}
    (h : wpAny (model prog w) A (call (.ref f) [.ref x, b]) (fun v s' => ∃ k, v = .bool k ∧ Q k s') E ⟨hp, g, d, t, os⟩) : wpAny (model prog w) A (contains (.ref x) b) Q E ⟨hp, g, d, t, os⟩ := by
  have l1 := looks_findIn (M := model prog w) X hf
  have l2 := bind_fn (M := model prog w) X (.ref x) tf
  unfold contains
  apply wpAny_holding
  have e : stdlibNamesSay? (.ref x) b = none := rfl
  rw [e]
  dsimp only
  unfold callSpecialUnlessNone? specialOf
  apply wpAny_bind
  apply wpAny_bind
  apply I.type.at
  apply l1.at
  dsimp only
  rw [if_neg (by simp)]
  apply wpAny_bind
  apply wpAny_bind
  apply wpAny_bind
  apply I.type.at
  apply l1.at
  dsimp only
  apply wpAny_holding
  apply wpAny_bind
  apply l2.at
  dsimp only [List.cons_append, List.nil_append]
  rw [if_neg (by simp)]
  apply wpAny_bind
  refine wpAny_mono h (fun v s' z => ?_) fun _ _ z => z
  obtain ⟨k, rfl, q⟩ := z
  apply wpAny_pure
  exact wpAny_truthy_bool q
end
end GO
end PySem
set_option maxHeartbeats 4000000
/-! Own operators of own instances, as rules. -/
namespace GL
open PySem PySem.Spec PyProof.Rows L2
theorem isFn_ty {K : PySem.W.Frag} {f : Addr} (h : PySem.W.isFn K (.ref f) = true) : PySem.W.typeIn K (.ref f) = some (.type "function") := by
  unfold PySem.W.isFn at h
  exact beq_iff_eq.mp h
section
variable {X : Cx} {pins : List (Addr × Obj)} {σ : L2.St} {H : Hp} {s : Shared} {a C dx f : Addr} {fs : List (Str × V)} {x y : V} {u t v : Value} {Q : VK} {CX : CXT} {E : XK} {k : Nat} {sp : Sp}
theorem inst_of (I : Inv X pins σ H s) (e : H a = some (.ins C dx fs)) : ∃ ox od, PySem.W.InstAt s.heap a ox C od := by
  obtain ⟨mA, hO, _, hw, _, _⟩ := ins_get I.hok e
  obtain ⟨oD, _, _, hoD, _, _⟩ := hO.ns.count hw
  exact ⟨_, some oD, hO.obj, rfl, rfl, hoD⟩
theorem ty_look (I : Inv X pins σ H s) (rx : L2.RelV x u) (ty : TyX X.K H x t) : PySem.W.Looks (model X.prog X.w) s.heap (typeOf u) t := by
  obtain ⟨P, kx, p, _⟩ := kit_of I rx ty
  exact kx.ty _ _ I.kIn p
theorem notImpl (z : EP X pins σ Q v s) : PySem.W.CmpBack (EP X pins σ Q) v s := by
  have ne : v ≠ .notImplemented := by
    rintro rfl
    obtain ⟨r, H', _, rr, _⟩ := z
    cases r <;> first | exact nomatch rr | (obtain ⟨_, e⟩ := rr; exact nomatch e)
  cases v <;> first | exact z | exact absurd rfl ne
theorem Room.in1 {k : Nat} {A : Around} (r : Room (k + 1) A) : Room k A.in1 := by
  refine ⟨r.hd, ?_, ?_⟩
  · have := r.dp
    show A.depth + 3 * k + 5 < recursionLimit
    omega
  · have := r.un
    show A.units + 1 + 16 * k + 200 < cLine
    omega
theorem run_in1 {us : List Value} {vs : List V} (F : FnR X.prog X.w X.K X.mg X.base CX k f sp) (hr : Room (k + 1) X.A) (hx : Passes CX X E) (I : Inv X pins σ H s) (r : Vals vs us) (q : sp vs H Q E) :
    wpAny (model X.prog X.w) X.A.in1 (PySem.call (.ref f) us) (EP X pins σ Q) X.xe s := by
  apply wpAny_call
  refine codeAny_mono (F X.A.in1 X.stack s H us vs Q E (Room.in1 hr) { I.env0 with frames := I.env0.frames } r q) fun r' s' z => ?_
  match r', z with
  | .error er, z => exact hx pins σ H s er s' I z
  | .ok .next, z => exact False.elim z
  | .ok .brk, z => exact False.elim z
  | .ok .cont, z => exact False.elim z
  | .ok (.ret u), z => exact I.after z
end

/-! ### a + b -/
structure OwnBin (K : PySem.W.Frag) (C : Addr) (op : Operator) (f : Addr) : Prop where
  m : Meth K C (dunder op.info.2) f
  r : PySem.W.findIn K (.ref C) (dunderR op.info.2) = some none
  c : ∃ cd rest, PySem.W.clsIn K C = some cd ∧ cd.mro = .ref C :: rest
  s : PySem.W.subIn K (.type "int") (.ref C) = some false
def rOwn (C : Addr) (sp : Sp) (E : XK) : R2 := fun x y H Q => ∃ a dx fs, x = .ref a ∧ H a = some (.ins C dx fs) ∧ ((∃ b dy gs, y = .ref b ∧ H b = some (.ins C dy gs)) ∨ ∃ n, y = .int n) ∧ sp [x, y] H Q E
theorem op_own {X : Cx} {CX : CXT} {E : XK} {k : Nat} {sp : Sp} {C f : Addr} {op : Operator} (hop : op = .Add ∨ op = .Sub ∨ op = .Mult) (B : OwnBin X.K C op f) (F : FnR X.prog X.w X.K X.mg X.base CX k f sp) (hr : Room k X.A) (hx : Passes CX X E) : OpR X (binaryOp op) (rOwn C sp E) := by
  intro pins s σ H x y v u Q I rx ry h
  obtain ⟨a, dx, fs, rfl, ea, hy, q⟩ := h
  cases (show v = Value.ref a from rx)
  obtain ⟨ox, od, J⟩ := inst_of I ea
  obtain ⟨cd, rest, hcd, hm⟩ := B.c
  have z : wpAny (model X.prog X.w) X.A (PySem.call (.ref f) [.ref a, u]) (PySem.W.CmpBack (EP X pins σ Q)) X.xe s := thn (wpAny_call (run_fnR F hr hx I (Paired.cons (a := V.ref a) (b := Value.ref a) rfl (.cons ry .nil)) q)) fun _ _ => notImpl
  rcases s with ⟨hp, g, d, tk, os⟩
  rcases hy with ⟨b, dy, gs, rfl, eb⟩ | ⟨n, rfl⟩
  · cases (show u = Value.ref b from ry)
    obtain ⟨oy, oe, J'⟩ := inst_of I eb
    exact PySem.GO.bin_same I.kIn J J' hcd hm B.m.at_ (isFn_ty B.m.fn) z
  · obtain ⟨tn, rfl⟩ := (show ∃ t, u = Value.int n t from ry)
    rcases hop with rfl | rfl | rfl
    · exact PySem.GO.bin_int (ia := "int.__add__") (ir := "int.__radd__") I.kIn J hcd hm B.m.at_ B.r (isFn_ty B.m.fn) (by show fastLookup "int" _ = _; decide +kernel) (by show fastLookup "int" _ = _; decide +kernel) (by decide +kernel) B.s z
    · exact PySem.GO.bin_int (ia := "int.__sub__") (ir := "int.__rsub__") I.kIn J hcd hm B.m.at_ B.r (isFn_ty B.m.fn) (by show fastLookup "int" _ = _; decide +kernel) (by show fastLookup "int" _ = _; decide +kernel) (by decide +kernel) B.s z
    · exact PySem.GO.bin_int (ia := "int.__mul__") (ir := "int.__rmul__") I.kIn J hcd hm B.m.at_ B.r (isFn_ty B.m.fn) (by show fastLookup "int" _ = _; decide +kernel) (by show fastLookup "int" _ = _; decide +kernel) (by decide +kernel) B.s z

/-! ### -a -/
theorem un_own {X : Cx} {CX : CXT} {E : XK} {k : Nat} {sp : Sp} {C f : Addr} (B : Meth X.K C "__neg__" f) (F : FnR X.prog X.w X.K X.mg X.base CX k f sp) (hr : Room k X.A) (hx : Passes CX X E) :
    UnR X (unaryOp .USub) (fun x H Q => ∃ a dx fs, x = .ref a ∧ H a = some (.ins C dx fs) ∧ sp [x] H Q E) := by
  intro pins s σ H x v Q I rx h
  obtain ⟨a, dx, fs, rfl, ea, q⟩ := h
  cases (show v = Value.ref a from rx)
  obtain ⟨ox, od, J⟩ := inst_of I ea
  have z := wpAny_call (run_fnR F hr hx I (Paired.cons (a := V.ref a) (b := Value.ref a) rfl .nil) q)
  rcases s with ⟨hp, g, d, tk, os⟩
  exact PySem.GO.neg_own I.kIn J B.at_ (isFn_ty B.fn) z

/-! ### a == b, a != b -/
structure OwnEq (K : PySem.W.Frag) (C f : Addr) : Prop where
  m : Meth K C "__eq__" f
  n : PySem.W.findIn K (.ref C) "__ne__" = some (some (.builtin "object.__ne__"))
  o : PySem.W.mroIn K C (.type "object") = some true
def rOwnE (K : PySem.W.Frag) (C : Addr) (sp : Sp) (E : XK) : R2 := fun x y H Q => ∃ a dx fs t, x = .ref a ∧ H a = some (.ins C dx fs) ∧ TyX K H y t ∧ PySem.W.notFirst K C t = true ∧ sp [x, y] H Q E
def rOwnN (K : PySem.W.Frag) (C : Addr) (sp : Sp) (E : XK) : R2 := fun x y H Q => ∃ a dx fs t, x = .ref a ∧ H a = some (.ins C dx fs) ∧ TyX K H y t ∧ PySem.W.notFirst K C t = true ∧ sp [x, y] H (fun v H' => ∃ k, v = .bl k ∧ Q (.bl !k) H') E
theorem op_eqO {X : Cx} {CX : CXT} {E : XK} {k : Nat} {sp : Sp} {C f : Addr} (B : OwnEq X.K C f) (F : FnR X.prog X.w X.K X.mg X.base CX k f sp) (hr : Room k X.A) (hx : Passes CX X E) : OpR X (compareOp .Eq) (rOwnE X.K C sp E) := by
  intro pins s σ H x y v u Q I rx ry h
  obtain ⟨a, dx, fs, t, rfl, ea, ty, nf, q⟩ := h
  cases (show v = Value.ref a from rx)
  obtain ⟨ox, od, J⟩ := inst_of I ea
  have z : wpAny (model X.prog X.w) X.A (PySem.call (.ref f) [.ref a, u]) (PySem.W.CmpBack (EP X pins σ Q)) X.xe s := thn (wpAny_call (run_fnR F hr hx I (Paired.cons (a := V.ref a) (b := Value.ref a) rfl (.cons ry .nil)) q)) fun _ _ => notImpl
  have hu : X.A.units < cLine := by have := hr.un; omega
  have lk := ty_look I ry ty
  rcases s with ⟨hp, g, d, tk, os⟩
  show wpAny _ _ (richCompare .Eq (.ref a) u) _ _ _
  have e : PySem.W.findIn X.K (.ref C) (cmpInfo .Eq).2.1 = some (some (.ref f)) := B.m.at_
  exact PySem.GO.cmp_any (op := .Eq) (.inl rfl) hu I.kIn J lk nf e (PySem.W.bind_fn I.kIn _ (isFn_ty B.m.fn)) z
theorem op_neO {X : Cx} {CX : CXT} {E : XK} {k : Nat} {sp : Sp} {C f : Addr} (B : OwnEq X.K C f) (F : FnR X.prog X.w X.K X.mg X.base CX k f sp) (hr : Room (k + 1) X.A) (hx : Passes CX X E) : OpR X (compareOp .NotEq) (rOwnN X.K C sp E) := by
  intro pins s σ H x y v u Q I rx ry h
  obtain ⟨a, dx, fs, t, rfl, ea, ty, nf, q⟩ := h
  cases (show v = Value.ref a from rx)
  obtain ⟨ox, od, J⟩ := inst_of I ea
  have hu : X.A.units + 1 < cLine := by have := hr.un; omega
  have lk := ty_look I ry ty
  have z := run_in1 F hr hx I (Paired.cons (a := V.ref a) (b := Value.ref a) rfl (.cons ry .nil)) q
  rcases s with ⟨hp, g, d, tk, os⟩
  refine PySem.GO.ne_own hu I.kIn J lk nf B.n B.m.at_ (isFn_ty B.m.fn) B.o (thn z ?_)
  rintro v s' ⟨r, H', I', rr, k, rfl, q'⟩
  exact ⟨k, rr, V.bl !k, H', I', rfl, q'⟩

/-! ### x in a -/
theorem op_inO {X : Cx} {CX : CXT} {E : XK} {k : Nat} {sp : Sp} {C f : Addr} (B : Meth X.K C "__contains__" f) (F : FnR X.prog X.w X.K X.mg X.base CX k f sp) (hr : Room k X.A) (hx : Passes CX X E) :
    OpR X (compareOp .In) (fun x y H Q => ∃ a dx fs, y = .ref a ∧ H a = some (.ins C dx fs) ∧ sp [y, x] H (fun v H' => ∃ k, v = .bl k ∧ Q v H') E) := by
  intro pins s σ H x y v u Q I rx ry h
  obtain ⟨a, dx, fs, rfl, ea, q⟩ := h
  cases (show u = Value.ref a from ry)
  obtain ⟨ox, od, J⟩ := inst_of I ea
  have z := wpAny_call (run_fnR F hr hx I (Paired.cons (a := V.ref a) (b := Value.ref a) rfl (.cons rx .nil)) q)
  rcases s with ⟨hp, g, d, tk, os⟩
  show wpAny _ _ (do let b ← contains (.ref a) v; return Value.bool b) _ _ _
  apply wpAny_bind
  refine PySem.GO.in_own I.kIn J B.at_ (isFn_ty B.fn) (thn z ?_)
  rintro w s' ⟨r, H', I', rr, k, rfl, q'⟩
  exact ⟨k, rr, wpAny_pure ⟨V.bl k, H', I', rfl, q'⟩⟩
end GL
set_option maxHeartbeats 1000000
/-! Calls with keywords alone: of defs, methods, classmethods. -/
namespace GL
open PySem PySem.Spec PyProof.Rows L2
theorem callWith_MK0 {A : Around} {E : Value → Shared → Prop} {s : Shared} {K : PySem.W.Frag} {M : Model} {env : Env} {pos : Pos} {first : List Value} {Q : Value → Shared → Prop} {q g : Addr} {self : Value} {kws : List Keyword} (hf : PySem.W.fnIn K g = true)
    (hall : ((backToKw pos (keywordEach kws env)).all fun x => x.fst.isSome) = true)
    (h : wpAny M A (evalAll (List.map (fun x => x.snd) (backToKw pos (keywordEach kws env))))
            (fun ks s₂ => PySem.W.MethP K q g self s₂.heap ∧ wpAny M A (call (.ref q) (first ++ []) ((List.filterMap (fun x => x.fst) (backToKw pos (keywordEach kws env))).zip ks)) Q E s₂) E s)
    (hplain : (((backTo pos (starEach [] env)).any fun x => x.fst) || (backToKw pos (keywordEach kws env)).any fun x => x.fst.isNone) = false) :
    wpAny M A (callWith pos (.ref q) first (backTo pos (starEach [] env)) (backToKw pos (keywordEach kws env))) Q E s :=
  PySem.W.callWith_of hplain (PySem.W.keeps_M hf) (evalArgs_kw2_nil hall h)
section
variable {X : Cx} {CX : CXT} {E : XK} {k n : Nat} {sp : Sp} {C f g : Addr} {fd : FuncData} {ps ks : List Str} {gU : List Value → List Value → List Value} {gV : List V → List V → List V} {kws : List Keyword} {tk : TA} {ta : TE} {o : Expr} {m x : Str} {p pos apos : Pos} {pl : Sem Bool}
theorem code_kw {pins : List (Addr × Obj)} {σ : L2.St} {H : Hp} {s : Shared} {Q : VK} {us ws : List Value} {vs zs : List V} (F : FnOk X.prog X.w X.K X.mg X.base CX k f fd ps sp) (hr : Room k X.A) (hb : KBn X.K fd ps n ks gU gV) (hx : Passes CX X E) (I : Inv X pins σ H s)
    (r : Vals vs us) (rz : Vals zs ws) (l1 : vs.length = n) (l2 : zs.length = ks.length) (q : sp (gV vs zs) H Q E) :
    codeAny (model X.prog X.w) X.A (.call (.ref f) ⟨us, ks.zip ws⟩) (fun r s' => match r with | .ok (.ret v) => EP X pins σ Q v s' | .ok _ => False | .error e => X.xe e s') s := by
  refine codeAny_mono (F.run X.A X.stack s H ⟨us, ks.zip ws⟩ (gU us ws) (gV vs zs) Q E hr I.env0 (hb.to s us ws I.kIn (by rw [← Paired.length r]; exact l1) (by rw [← Paired.length rz]; exact l2)) (hb.rel r rz) q) fun r' s' z => ?_
  match r', z with
  | .error er, z => exact hx pins σ H s er s' I z
  | .ok .next, z => exact False.elim z
  | .ok .brk, z => exact False.elim z
  | .ok .cont, z => exact False.elim z
  | .ok (.ret u), z => exact I.after z
/-- f(k = v, ..) -/
theorem pe_callN0 (F : FnOk X.prog X.w X.K X.mg X.base CX k f fd ps sp) (hr : Room k X.A) (hg : Gl X x) (hm : X.mg x = some (.ref f)) (hk : PySem.W.keepIn X.K (.ref f) = true) (hb : KBn X.K fd ps 0 ks gU gV) (hx : Passes CX X E) (hkw : PK X kws tk)
    (hall : (backToKw pos (keywordEach kws X.env)).all (·.1.isSome) = true := by rfl) (hks : (backToKw pos (keywordEach kws X.env)).filterMap (·.1) = ks := by rfl) (hdb : (x == ("__debug__" : Str)) = false := by decide)
    (hpl : ((backTo pos (starEach [] X.env)).any (·.1) || (backToKw pos (keywordEach kws X.env)).any (·.1.isNone)) = false := by rfl) :
    PE X (.Call (.Name x p) [] kws pos) (fun σ H Q => tk σ H fun zs H1 => zs.length = ks.length ∧ sp (gV [] zs) H1 Q E) := by
  constructor
  intro pins s σ H Q I h
  apply wpAny_Call_Name_kw
  refine ld_glob I hg hm ?_ hdb
  refine PySem.W.callWith_KW0 (h₀ := X.base) I.ok.mod.kin hk hall ?_ hpl
  refine thn (hkw.run pos pins s σ H _ I h) ?_
  rintro ws s2 ⟨zs, H2, I2, rz, l2, q⟩
  refine ⟨I2.kIn, ?_⟩
  rw [hks]
  exact wpAny_call (code_kw F hr hb hx I2 .nil rz rfl l2 q)
/-- o.m(k = v, ..) -/
theorem pe_methN0 (he : PE X o ta) (c : Cls X.K C) (hm : Meth X.K C m f) (F : FnOk X.prog X.w X.K X.mg X.base CX k f fd ps sp) (hr : Room k X.A) (hb : KBn X.K fd ps 1 ks gU gV) (hx : Passes CX X E) (hkw : PK X kws tk)
    (hall : (backToKw pos (keywordEach kws X.env)).all (·.1.isSome) = true := by rfl) (hks : (backToKw pos (keywordEach kws X.env)).filterMap (·.1) = ks := by rfl)
    (hpl : ((backTo pos (starEach [] X.env)).any (·.1) || (backToKw pos (keywordEach kws X.env)).any (·.1.isNone)) = false := by rfl)
    (ht : eval (.Call (.Attribute o m apos) [] kws pos) X.env = (do let ov ← eval o X.env; standAt apos.atName; let (f, first) ← holding [ov] (getMethod ov m pl); callWith pos f first (backTo pos (starEach [] X.env)) (backToKw pos (keywordEach kws X.env))) := by rfl) :
    PE X (.Call (.Attribute o m apos) [] kws pos) (fun σ H Q => ta σ H fun x H1 => ∃ a dx fs, x = .ref a ∧ H1 a = some (.ins C dx fs) ∧ fs.lookup m = none ∧ tk σ H1 fun zs H2 => zs.length = ks.length ∧ sp (gV [x] zs) H2 Q E) := by
  constructor
  intro pins s σ H Q I h
  refine PySem.W.methodCall_KW (thn (he.run pins s σ H _ I h) ?_) ht
  rintro u s1 ⟨x, H1, I1, rx, a, dx, fs, rfl, ea, l, q⟩
  cases (show u = Value.ref a from rx)
  refine getmeth_ok I1 ea c hm l ?_
  refine PySem.W.callWith_KW0 (h₀ := X.base) I.ok.mod.kin hm.kp hall ?_ hpl
  refine thn (hkw.run pos pins s1 σ H1 _ I1 q) ?_
  rintro ws s2 ⟨zs, H2, I2, rz, l2, q⟩
  refine ⟨I2.kIn, ?_⟩
  rw [hks]
  exact wpAny_call (code_kw F hr hb hx I2 (Paired.cons (a := V.ref a) (b := Value.ref a) rfl .nil) rz rfl l2 q)
/-- C.m(k = v, ..), m a classmethod -/
theorem pe_cmethN0 {mc : Value} {pp : Addr} (he : PE X o ta) (r : ClX.CRead X.K C mc) (c : ClX.CMet X.K C mc m pp f) (F : FnOk X.prog X.w X.K X.mg X.base CX k f fd ps sp) (hr : Room k X.A) (hb : KBn X.K fd ps 1 ks gU gV) (hx : Passes CX X E) (hkw : PK X kws tk)
    (hall : (backToKw pos (keywordEach kws X.env)).all (·.1.isSome) = true := by rfl) (hks : (backToKw pos (keywordEach kws X.env)).filterMap (·.1) = ks := by rfl)
    (hpl : ((backTo pos (starEach [] X.env)).any (·.1) || (backToKw pos (keywordEach kws X.env)).any (·.1.isNone)) = false := by rfl)
    (ht : eval (.Call (.Attribute o m apos) [] kws pos) X.env = (do let ov ← eval o X.env; standAt apos.atName; let (f, first) ← holding [ov] (getMethod ov m pl); callWith pos f first (backTo pos (starEach [] X.env)) (backToKw pos (keywordEach kws X.env))) := by rfl) :
    PE X (.Call (.Attribute o m apos) [] kws pos) (fun σ H Q => ta σ H fun x H1 => x = .ref C ∧ tk σ H1 fun zs H2 => zs.length = ks.length ∧ sp (gV [x] zs) H2 Q E) := by
  constructor
  intro pins s σ H Q I h
  refine PySem.W.methodCall_KW (thn (he.run pins s σ H _ I h) ?_) ht
  rintro u s1 ⟨x, H1, I1, rx, rfl, q⟩
  cases (show u = Value.ref C from rx)
  refine ClX.getmethcm_ok I1 r c fun s2 I2 => ?_
  refine callWith_MK0 (K := X.K) (g := f) (self := .ref C) c.fi hall ?_ hpl
  refine thn (hkw.run pos _ s2 σ H1 _ I2 q) ?_
  rintro ws s3 ⟨zs, H3, I3, rz, l2, q⟩
  refine ⟨⟨ClX.pin_at I3, I3.kIn⟩, ?_⟩
  rw [hks]
  have z := wpAny_call (PySem.W.method_call (pos := []) (ClX.pin_at I3) (code_kw F hr hb hx I3 (Paired.cons (a := V.ref C) (b := Value.ref C) rfl .nil) rz rfl l2 q))
  exact thn z fun _ _ y => ClX.unpinE y
end
end GL
set_option maxHeartbeats 4000000
/-! The hook with defs at any place: classmethods, properties. -/
namespace GL
open PySem PySem.Spec PyProof.Rows L2
structure DefX where
  ad : PySem.W.Frag → Addr
  d : He.DefD
def fnX (K : PySem.W.Frag) (x : DefX) : He.FnW := match K.lookup (x.ad K) with
  | some ⟨_, _, .func fd, _⟩ => some (fd.name, fd.qualname, fd.params, fd.body, fd.scope, fd.globals, fd.closure, fd.builtins)
  | _ => none
def okX (K : PySem.W.Frag) (x : DefX) : Bool := PySem.W.keepIn K (.ref (x.ad K)) && match K.lookup (x.ad K) with
  | some ⟨_, _, .func fd, _⟩ => PySem.W.codeIn K fd.code x.d.qual && (He.dflB K fd.defaults (He.DefD.dvs K x.d) && He.kwdB K fd.kwdefaults (He.DefD.kws K x.d))
  | _ => false
theorem funX {K : PySem.W.Frag} {x : DefX} (e : fnX K x = x.d.val) (o : okX K x = true) : ∃ fd, FunD K x.d.name x.d.qual x.d.params x.d.body x.d.scope (He.DefD.dvs K x.d) (He.DefD.kws K x.d) (x.ad K) fd := by
  obtain ⟨kp, o⟩ := He.ba o
  unfold fnX at e
  cases q : K.lookup (x.ad K) with
  | none =>
    rw [q] at o
    cases o
  | some ob =>
    obtain ⟨oc, od, dt, osl⟩ := ob
    rw [q] at e o
    cases dt with
    | func fd =>
      obtain ⟨n1, n2, n3, n4, n5, n6, n7, n8, n9, n10, n11, n12, n13, n14, n15⟩ := fd
      have e2 : some (n1, n2, n3, n4, n5, n6, n7, n15) = some (x.d.name, x.d.qual, x.d.params, FuncBody.stmts x.d.body, x.d.scope, mainGlobals, [], builtinsNs) := e
      simp only [Option.some.injEq, Prod.mk.injEq] at e2
      obtain ⟨rfl, rfl, rfl, rfl, rfl, rfl, rfl, rfl⟩ := e2
      obtain ⟨c1, c2⟩ := He.ba o
      obtain ⟨c2, c3⟩ := He.ba c2
      exact ⟨_, ⟨oc, od, n8, n9, n10, n11, n12, n13, n14, osl, rfl, q, c1, He.dflB_ok c2, He.kwdB_ok c3⟩, kp⟩
    | _ => cases o
def SaysX (fx : List DefX) (K : PySem.W.Frag) : Prop := fx.map (fnX K) = fx.map (fun x => x.d.val) ∧ fx.all (okX K) = true
theorem SaysX.def_ {fx : List DefX} {K : PySem.W.Frag} (c : SaysX fx K) (i : Nat) {x : DefX} (h : fx[i]? = some x := by rfl) :
    ∃ fd, FunD K x.d.name x.d.qual x.d.params x.d.body x.d.scope (He.DefD.dvs K x.d) (He.DefD.kws K x.d) (x.ad K) fd := by
  refine funX ?_ (List.all_eq_true.mp c.2 x (List.mem_of_getElem? h))
  have e : (fx.map (fnX K))[i]? = (fx.map (fun x => x.d.val))[i]? := by rw [c.1]
  rw [List.getElem?_map, List.getElem?_map, h] at e
  exact Option.some.inj e
abbrev AlZ : Type := He.AlD × (List He.FnW × Bool)
def obsZ (n : Nat) (fa : List He.Fa) (fn : List He.DefD) (fx : List DefX) (ex : PySem.W.Frag → Bool) (g : Addr → Option Obj) : AlZ := (He.obsD fa fn (kOf n g), (fx.map (fnX (kOf n g)), fx.all (okX (kOf n g)) && ex (kOf n g)))
def hookZ (n : Nat) (fa : List He.Fa) (fn : List He.DefD) (fx : List DefX) (ex : PySem.W.Frag → Bool) : PySem.W.Hook where
  α := AlZ
  obs := fun s => obsZ n fa fn fx ex s.heap.get?
  val := fun _ => (He.valD fn, (fx.map (fun x : DefX => x.d.val), true))
  says := fun _ h => ∃ K : PySem.W.Frag, K.In h ∧ He.SaysD fa fn K ∧ SaysX fx K ∧ ex K = true
  of := fun _ s e => ⟨kOf n s.heap.get?, He.frG_in, congrArg (fun z : AlZ => z.1) e, ⟨congrArg (fun z : AlZ => z.2.1) e, (He.ba (show (fx.all (okX (kOf n s.heap.get?)) && ex (kOf n s.heap.get?)) = true from congrArg (fun z : AlZ => z.2.2) e)).1⟩, (He.ba (show (fx.all (okX (kOf n s.heap.get?)) && ex (kOf n s.heap.get?)) = true from congrArg (fun z : AlZ => z.2.2) e)).2⟩
  keeps := fun _ _ _ ⟨K, hK, c⟩ k => ⟨K, PySem.W.Frag.In.keeps hK k, c⟩
theorem obsZ_eq {n : Nat} {fa : List He.Fa} {fn : List He.DefD} {fx : List DefX} {ex : PySem.W.Frag → Bool} {g : Addr → Option Obj} {s : Shared} (h : ∀ a, g a = s.heap.get? a) : obsZ n fa fn fx ex g = (hookZ n fa fn fx ex).obs s := by
  have e : g = s.heap.get? := funext h
  rw [e]
  rfl
/-! ### where a classmethod's, a property's def stands -/
def wrapAt (K : PySem.W.Frag) (C : Addr) (m : Str) (T : String) : Addr := match PySem.W.recIn K (He.ma K C m) T with
  | some (.ref g :: _) => g
  | _ => 0
def propB (K : PySem.W.Frag) (C : Addr) (f : Str) : Bool := He.eqO (PySem.W.findIn K (.ref C) f) (some (some (.ref (He.ma K C f)))) && (He.eqO (PySem.W.specialIn K (.ref (He.ma K C f)) "__get__") (some (some (.builtin "property.__get__"))) &&
  (decide (PySem.W.takesIn K (.ref (He.ma K C f)) = some true) && (match PySem.W.recIn K (He.ma K C f) "property" with | some (.ref _ :: _) => true | _ => false)))
theorem propB_ok {K : PySem.W.Frag} {C : Addr} {f : Str} (h : propB K C f = true) : PropOf K C f (He.ma K C f) (wrapAt K C f "property") := by
  obtain ⟨h1, h⟩ := He.ba h
  obtain ⟨h2, h⟩ := He.ba h
  obtain ⟨h3, h4⟩ := He.ba h
  refine ⟨He.eqO_ok h1, He.eqO_ok h2, of_decide_eq_true h3, ?_⟩
  unfold wrapAt
  split at h4
  · rename_i g rest e
    exact ⟨rest, by rw [e]⟩
  · cases h4
def cmetB (K : PySem.W.Frag) (C : Addr) (mc : Value) (m : Str) : Bool := (match PySem.W.findCls K (.ref C) mc m with | some (.get (.builtin i) (.ref p) .none (.ref C')) => i == "classmethod.__get__" && (p == He.ma K C m && C' == C) | _ => false) &&
  ((match PySem.W.recIn K (He.ma K C m) "classmethod" with | some (.ref _ :: _) => true | _ => false) && PySem.W.fnIn K (wrapAt K C m "classmethod"))
theorem cmetB_ok {K : PySem.W.Frag} {C : Addr} {mc : Value} {m : Str} (h : cmetB K C mc m = true) : ClX.CMet K C mc m (He.ma K C m) (wrapAt K C m "classmethod") := by
  obtain ⟨h1, h⟩ := He.ba h
  obtain ⟨h2, h3⟩ := He.ba h
  refine ⟨?_, ?_, h3⟩
  · split at h1
    · rename_i i p C' e
      simp only [Bool.and_eq_true, beq_iff_eq] at h1
      obtain ⟨rfl, rfl, rfl⟩ := h1
      exact e
    · cases h1
  · unfold wrapAt
    split at h2
    · rename_i g rest e
      exact ⟨rest, by rw [e]⟩
    · cases h2
end GL
set_option maxHeartbeats 4000000
namespace K18
open PySem PySem.Spec PyProof.Rows L2 GL
def tp (i : Nat) : Stmt := PySem.Challenge.pw_fademodes_k20_rules_made.main.body.getD i (.Pass ⟨0, 0, 0, 0⟩)
abbrev sIsInt : Stmt := tp 17
abbrev sIsNum : Stmt := tp 24
abbrev sRatio (j : Nat) : Stmt := inClass (tp 25) j
abbrev sRatiosOf : Stmt := tp 26
end K18
set_option maxHeartbeats 4000000
/-! The hook of GH with the interpreter's own statics among what K holds; keywords of defs without defaults. -/
namespace GL
open PySem PySem.Spec PyProof.Rows L2
/-- what an object names that a law's facts ask: a namespace's values, a def's code and defaults, a class's namespace, a record's fields -/
def refsT (o : Obj) : List Addr := match o.data with
  | .dict es _ => es.toList.flatMap fun e => He.refV e.val
  | .func fd => He.refV fd.code ++ He.refV fd.defaults
  | .cls cd => [cd.ns]
  | .fields vs => vs.toList.flatMap He.refV
  | _ => []
def nextT (g : Addr → Option Obj) (as : List Addr) : List Addr := as.flatMap fun a => match g a with
  | some o => refsT o
  | none => []
def lvls (g : Addr → Option Obj) : Nat → List Addr → List Addr
  | 0, as => as
  | n + 1, as => as ++ lvls g n (nextT g as)
def kOfT (n : Nat) (g : Addr → Option Obj) : PySem.W.Frag := He.frG g (cStatics :: sysModules :: lvls g n [mainGlobals])
def obsT (n : Nat) (fa : List He.Fa) (fn : List He.DefD) (fx : List DefX) (ex : PySem.W.Frag → Bool) (g : Addr → Option Obj) : AlZ := (He.obsD fa fn (kOfT n g), (fx.map (fnX (kOfT n g)), fx.all (okX (kOfT n g)) && ex (kOfT n g)))
def hookT (n : Nat) (fa : List He.Fa) (fn : List He.DefD) (fx : List DefX) (ex : PySem.W.Frag → Bool) : PySem.W.Hook where
  α := AlZ
  obs := fun s => obsT n fa fn fx ex s.heap.get?
  val := fun _ => (He.valD fn, (fx.map (fun x : DefX => x.d.val), true))
  says := fun _ h => ∃ K : PySem.W.Frag, K.In h ∧ He.SaysD fa fn K ∧ SaysX fx K ∧ ex K = true
  of := fun _ s e => ⟨kOfT n s.heap.get?, He.frG_in, congrArg (fun z : AlZ => z.1) e, ⟨congrArg (fun z : AlZ => z.2.1) e, (He.ba (show (fx.all (okX (kOfT n s.heap.get?)) && ex (kOfT n s.heap.get?)) = true from congrArg (fun z : AlZ => z.2.2) e)).1⟩, (He.ba (show (fx.all (okX (kOfT n s.heap.get?)) && ex (kOfT n s.heap.get?)) = true from congrArg (fun z : AlZ => z.2.2) e)).2⟩
  keeps := fun _ _ _ ⟨K, hK, c⟩ k => ⟨K, PySem.W.Frag.In.keeps hK k, c⟩
theorem obsT_eq {n : Nat} {fa : List He.Fa} {fn : List He.DefD} {fx : List DefX} {ex : PySem.W.Frag → Bool} {g : Addr → Option Obj} {s : Shared} (h : ∀ a, g a = s.heap.get? a) : obsT n fa fn fx ex g = (hookT n fa fn fx ex).obs s := by
  have e : g = s.heap.get? := funext h
  rw [e]
  rfl
/-- every parameter but the first n is named -/
theorem kbn {K : PySem.W.Frag} {x qual : Str} {params : Arguments} {body : List Stmt} {scope : Scope} {kws : List (Str × V)} {f : Addr} {fd : FuncData} {ps : List Str} (F : FunD K x qual params body scope [] kws f fd) (n : Nat) (ks : List Str) (gU : List Value → List Value → List Value) (gV : List V → List V → List V)
    (hrel : ∀ {vs zs : List V} {us ws : List Value}, Vals vs us → Vals zs ws → Vals (gV vs zs) (gU us ws))
    (h : ∀ (kV doc pm : Value) (an : Option Addr) (cdv ct : Value) (us ws : List Value), us.length = n → ws.length = ks.length → bindArgs (PySem.W.fnOf x qual params body scope .none kV doc pm an cdv ct) ⟨us, ks.zip ws⟩ = pure (ps.zip (gU us ws))) : KBn K fd ps n ks gU gV := by
  obtain ⟨oc, od, dV, kV, doc, pm, an, cdv, ct, osl, rfl, lk, hcd, hD, hK⟩ := F.ex
  rcases hD with ⟨_, rfl⟩ | ⟨e, _⟩
  · exact ⟨fun s us ws _ l1 l2 => .of_eq (h kV doc pm an cdv ct us ws l1 l2), fun r z => hrel r z⟩
  · exact absurd rfl e
theorem Vals.rev : ∀ {vs : List V} {us : List Value}, Vals vs us → Vals vs.reverse us.reverse
  | _, _, .nil => .nil
  | _, _, .cons a b => by
    rw [List.reverse_cons, List.reverse_cons]
    exact (Vals.rev b).append (.cons a .nil)
end GL
namespace GL
open PySem PySem.Spec PyProof.Rows L2
section
open HandSHeadRun
/-- the head's run, put together from what it shows of its parts: each is computed by itself -/
theorem run_parts {r : PySem.W.OpenRow} {q : Program} {n : Nat} {fa : List He.Fa} {fn : List He.DefD} {fx : List DefX} {ex : PySem.W.Frag → Bool} {M : Nat} {loose : List PySem.Str} {w : World}
    (h1 : (wholeF (fun p => stepQ (denQ tabQ) p w) fenceQ M r.prog).map (fun x => (looksF r.prog x.1.heap x.2.abs, seenQ q loose (importedModules r.prog.main.body) (fun s => PySem.W.xlAt q [] s && PySem.W.recOk r.toRowW.records s) x.2.abs)) = some (true, PySem.W.openGood q loose))
    (h2 : (wholeF (fun p => stepQ (denQ tabQ) p w) fenceQ M r.prog).map (fun x => He.obsD fa fn (kOfT n (getT x.2))) = some (He.valD fn))
    (h3 : (wholeF (fun p => stepQ (denQ tabQ) p w) fenceQ M r.prog).map (fun x => (fx.map (fnX (kOfT n (getT x.2))), fx.all (okX (kOfT n (getT x.2))) && ex (kOfT n (getT x.2)))) = some (fx.map (fun x : DefX => x.d.val), true)) :
    RunEqI r q (hookT n fa fn fx ex) (fun s => obsT n fa fn fx ex (getT s)) M loose w := by
  unfold RunEqI
  cases e : wholeF (fun p => stepQ (denQ tabQ) p w) fenceQ M r.prog with
  | none =>
    rw [e] at h1
    cases h1
  | some x =>
    rw [e] at h1 h2 h3
    have a1 := Option.some.inj h1
    have a2 := Option.some.inj h2
    have a3 := Option.some.inj h3
    obtain ⟨b1, b2⟩ := Prod.mk.inj a1
    refine congrArg some (Prod.ext b1 (Prod.ext b2 ?_))
    exact Prod.ext a2 a3
end
end GL
set_option maxHeartbeats 4000000
/-! Errors of the program raised and caught: raise C(e, ..) of a class of errors with an __init__ that stores its parameters; several clauses with names; a field of what was caught. -/
namespace GL
open PySem PySem.Spec PyProof.Rows L2
/-! ### raise C(e, ..) -/
theorem XC.isType {K : PySem.W.Frag} {C : Addr} {b : EB} (T : XC K C b) : PySem.W.typeIn K (.ref C) = some (.type "type") := by
  obtain ⟨nm, q, N, bs, bm, sn, sub, ab, col, dd, k0, k1, k2, k3, k5, hC, _⟩ := T.cls
  show Option.map (fun x => x.cls) (List.lookup C K) = _
  rw [hC]
  rfl
/-- C(e, ..) made, to be raised: fl its fields -/
def tRaise (C : Addr) (fl : List Str) (t : TA) : L2.St → Hp → XK → Prop := fun σ H Q => t σ H fun vs H1 => vs.length = fl.length ∧ vs.length ≤ 1000 ∧ ∀ d H2, Same H1 H2 → H1 d = none → H2 d = some (.xd (fl.zip vs).reverse) → Q (.ref C) (some d) H2
section
variable {X : Cx} {x : Str} {C fI : Addr} {b : EB} {k : Nat} {fd : FuncData} {ps : List Str} {fl : List Str} {e : Expr} {es : List Expr} {ta : TA} {p pos : Pos}
theorem pmk_x (T : XC X.K C b) (iC : PySem.W.findIn X.K (.ref C) "__init__" = some (some (.ref fI))) (tI : PySem.W.typeIn X.K (.ref fI) = some (.type "function")) (F1 : FnOk X.prog X.w X.K X.mg X.base CX0 k fI fd ps (spInit C fl))
    (hr : Room (k + 1) X.A) (hb : Binds X.K fd ps []) (hg : Gl X x) (hm : X.mg x = some (.ref C)) (ha : PA X (e :: es) ta) (hdb : (x == ("__debug__" : Str)) = false := by decide)
    (he : starEach (e :: es) X.env = (false, eval e X.env) :: starEach es X.env := by rfl) (hpl : (backTo pos (starEach es X.env)).any (·.1) = false := by rfl) : PMk X (.Call (.Name x p) (e :: es) [] pos) (tRaise C fl ta) := by
  intro pins s σ H Q I h
  apply wpAny_Call_Name_kw
  refine ld_glob I hg hm ?_ hdb
  refine PySem.W.callWith_K (h₀ := X.base) I.ok.mod.kin T.keep (thn (ha.run pos pins s σ H _ I h) ?_) he hpl
  rintro us s1 ⟨vs, H1, I1, r1, len, small, q⟩
  refine ⟨I1.kIn, ?_⟩
  obtain ⟨nm, qn, N, bs, bm, sn, sub, ab, col, dd, k0, k1, k2, k3, k5, hC, hbm⟩ := T.cls
  obtain ⟨i, FB⟩ := b.base
  rcases s1 with ⟨hp, g, dr, tk, os⟩
  have le1 : hp.objs.size ≤ hp.objs.size + 1 := Nat.le_succ _
  have free : H1 (hp.objs.size + 1) = none := I1.hok.fresh le1
  have kk : ∀ b o, hp.get? b = some o → ((hp.push (PySem.W.kdv_tup us)).push (PySem.HandSPX.excO C hp.objs.size)).get? b = some o := fun b o z => Heap.get?_push_of_some _ (Heap.get?_push_of_some _ z)
  have at_ : ((hp.push (PySem.W.kdv_tup us)).push (PySem.HandSPX.excO C hp.objs.size)).get? (hp.objs.size + 1) = some (PySem.HandSPX.excO C hp.objs.size) := by heap_get
  have J : Inv X pins σ (upd H1 (hp.objs.size + 1) (exo (hp.objs.size + 1) C none)) ⟨(hp.push (PySem.W.kdv_tup us)).push (PySem.HandSPX.excO C hp.objs.size), g, dr, tk, os⟩ := I1.laid (t' := tk) kk le1 (exo_ok at_)
  have rr : Vals (V.ref (hp.objs.size + 1) :: vs) (Value.ref (hp.objs.size + 1) :: us) := .cons rfl r1
  have le2 : us.length ≤ sizeLine := by
    rw [← Paired.length r1, sizeLine_eq]
    omega
  have hq : spInit C fl (.ref (hp.objs.size + 1) :: vs) (upd H1 (hp.objs.size + 1) (exo (hp.objs.size + 1) C none)) (fun v H2 => v = .non ∧ ∃ d, H2 (hp.objs.size + 1) = some (exo (hp.objs.size + 1) C (some d)) ∧ H2 d = some (exd d (fl.zip vs).reverse) ∧ H1 d = none ∧
      Q (.ref C) (some d) (upd (del H2 (hp.objs.size + 1)) d (.xd (fl.zip vs).reverse))) E0 := by
    refine ⟨_, vs, rfl, len, upd_same, fun dx H' n1 n2 o1 o2 kp => ⟨rfl, dx, o1, o2, ?_, ?_⟩⟩
    · rw [upd_ne n2] at n1
      exact n1
    · rw [upd_ne n2] at n1
      refine q dx _ (fun c o z => ?_) n1 upd_same
      have c1 : c ≠ hp.objs.size + 1 := ne_of_none z free
      have c2 : c ≠ dx := ne_of_none z n1
      rw [upd_ne c2, del_ne c1]
      exact kp c o (by rw [upd_ne c1]; exact z) c1
  have hlen := F1.len _ _ _ _ hq
  show wpAny _ _ (PySem.call (.ref C) us) _ _ _
  refine wpAny_call (PySem.GX.made FB (fun Y => PySem.W.excTail_contains Y bm hbm) (I1.kIn _ _ hC) (PySem.W.looks_findIn I1.kIn iC) (fun self => PySem.W.bind_fn I1.kIn self tI) le2 ?_)
  have bnd : BindsTo ⟨(hp.push (PySem.W.kdv_tup us)).push (PySem.HandSPX.excO C hp.objs.size), g, dr, tk, os⟩ fd ⟨Value.ref (hp.objs.size + 1) :: us, []⟩ (ps.zip (Value.ref (hp.objs.size + 1) :: us)) := by
    have z := hb _ (Value.ref (hp.objs.size + 1) :: us) J.kIn (by rw [List.append_nil, ← hlen, List.length_cons, List.length_cons, Paired.length r1])
    simpa using z
  refine codeAny_mono (F1.run _ X.stack _ _ ⟨Value.ref (hp.objs.size + 1) :: us, []⟩ (Value.ref (hp.objs.size + 1) :: us) _ _ E0 (hr.make C us []) (J.env0.make C us []) bnd rr hq) ?_
  intro r' s' z
  match r', z with
  | .error er, z => exact False.elim z
  | .ok .next, z => exact False.elim z
  | .ok .brk, z => exact False.elim z
  | .ok .cont, z => exact False.elim z
  | .ok (.ret u), z =>
    obtain ⟨v, H2, os2, bare2, un2, hok2, rv, rfl, d, o1, o2, n1, w⟩ := z
    obtain ⟨h2, g2, d2, t2, os'⟩ := s'
    exact ⟨rv, mk_end (raises_own T.exB T.isType) I1 le1 kk un2 hok2 os2 bare2 o1 o2 n1 w⟩
end

/-! ### several clauses, each with a name -/
/-- the ends of a clause's suite: its name (slot i) is gone -/
def gone (D : Ends) (i : Nat) : Ends := { nx := fun z H' => D.nx (z.set i none) H', rt := D.rt, bk := fun z H' => D.bk (z.set i none) H', ct := fun z H' => D.ct (z.set i none) H' }
abbrev Clause : Type := Value × Nat × (Addr → Value → Option Addr → TS)
/-- what the clauses wish of an exception of the body -/
def wNamed (K : PySem.W.Frag) (W0 : WX) (D : Ends) : List Clause → WX
  | [] => W0
  | (c, i, ts) :: rest => fun cls d z H => ∃ hit, PySem.W.exmOne K cls c = some hit ∧ (hit = true → ∀ a, H a = none → ts a cls d (gone D i) (z.set i (some (.ref a))) H) ∧ (hit = false → wNamed K W0 D rest cls d z H)
inductive Clauses (X : Cx) : List ExceptHandler → List Clause → Prop
  | nil : Clauses X [] []
  | cons {x n : Str} {c : Value} {i : Nat} {ts : Addr → Value → Option Addr → TS} {b₀ : Stmt} {suite : List Stmt} {q1 q2 : Pos} {hds : List ExceptHandler} {rest : List Clause} (slot : X.N[i]? = some n) (own : X.env.kindOf n = some .local) (hc : Names X x c)
      (run : ∀ (a : Addr) (oe : Obj) (cls : Value) (d : Option Addr) (pn : List (Addr × Obj)), Zc cls d oe → (∃ vs, oe.data = .fields vs) → PSs (X.suite a ((a, oe) :: pn)) (b₀ :: suite) (ts a cls d)) (more : Clauses X hds rest) :
      Clauses X (.ExceptHandler (some (.Name x q1)) (some n) (b₀ :: suite) q2 :: hds) ((c, i, ts) :: rest)
section
variable {X : Cx} {pins : List (Addr × Obj)} {z z' : L2.St} {H H' : Hp} {s s' sI : Shared} {D : Ends}
/-- behind a suite: the name is taken away -/
theorem suite_end {n : Str} {i : Nat} {a : Addr} {oe : Obj} {pos : Pos} {Q : Shared → Prop} (ok : X.Ok) (hN : X.N.Nodup) (slot : X.N[i]? = some n) (own : X.env.kindOf n = some .local)
    (S : Inv (X.suite a ((a, oe) :: (X.pn ++ pins))) [] z H s) (h : ∀ s2, Inv X pins (z.set i none) H s2 → Q s2) :
    wpAny (model X.prog X.w) X.A (do bindName X.env n .none; unbindBehindTheSuite X.env n pos) (fun _ s2 => Q s2) X.xe s := gone_ok (S.unsuite ok) hN slot own h
theorem in_clauses {W0 : WX} {B : Heap} {a : Addr} {cls : Value} {d : Option Addr} (tk : Takes X W0) (hs : X.stack = X.env :: X.outer) (hf : X.env.frame = some X.env.locals) (hN : X.N.Nodup) (I : Inv X pins z H sI)
    (nb : ∀ b o, sI.heap.get? b = some o → b ∉ frs X.stack → B.get? b = some o) (up : sI.heap.UpToSlots s.heap) (fl : HandSPX.FlyingZ B (X.env :: X.outer) a (Zc cls d) s.heap) (na : H a = none) (os : s.os = sI.os) (ag : AllBare s.gens)
    {hds : List ExceptHandler} {l : List Clause} (hk : Clauses X hds l) (w : wNamed X.K W0 D l cls d z H) : wpAny (model X.prog X.w) X.A (handleBy (.ref a) X.env hds) (SP X pins D) X.xe s := by
  have ok := I.ok
  have landed : Inv X pins z H s := I.landed nb fl.1 up os ag
  have apart : ∀ {h : Heap}, HandSPX.FlyingZ B (X.env :: X.outer) a (Zc cls d) h → a ≠ X.env.locals ∧ a ∉ X.fs := by
    intro h f
    obtain ⟨oe, vs, e1, _, e3⟩ := f.there
    have nm : a ∉ frs (X.env :: X.outer) := fun m => by
      obtain ⟨_, o', e', no⟩ := f.2.2.1.mem m
      rw [e1] at e'
      cases e'
      exact no _ e3
    refine ⟨fun q => nm (List.mem_filterMap.mpr ⟨X.env, List.mem_cons_self, by rw [hf, q]⟩), fun m => ?_⟩
    obtain ⟨e, he, q⟩ := List.mem_filterMap.mp m
    exact nm (List.mem_filterMap.mpr ⟨e, List.mem_cons_of_mem _ he, q⟩)
  obtain ⟨nL, nF⟩ := apart fl
  induction hk with
  | nil =>
    refine wpAny_handleBy_nil ?_
    obtain ⟨_, _, _, oe, vs, T, oT, ts', e0, _, e2, e3, _⟩ := id fl
    unfold PySem.passOn
    refine wpAny_bind (wpAny_field e0 e2 e3 ?_)
    have notNone : ¬ ((Value.ref T == Value.none) = true) := by simp
    rw [if_neg notNone]
    have last : wpAny (model X.prog X.w) X.A (setFlight (.ref a) X.env.frame) (fun _ s4 => wpAny (model X.prog X.w) X.A (throw (.ref a) : Sem Flow) (SP X pins D) X.xe s4) X.xe s := by
      rw [hf]
      refine HandSPX.setFlight_upZ fl fun h4 held up4 => wpAny_throw (tk _ _ ⟨a, B, sI, pins, z, H, cls, d, rfl, I, nb, up.trans up4, .inr (.inr ?_), na, os, ag, w⟩)
      rw [hs]
      exact held
    first
      | exact wpAny_bind last
      | exact wpAny_bind (wpAny_pure (wpAny_bind last))
  | @cons x n c i ts b₀ suite q1 q2 hds rest slot own hc run more ih =>
    obtain ⟨hit, m, yes, no⟩ := w
    obtain ⟨oe, vs, e1, e2, e3⟩ := fl.there
    have S0 := landed.suite e1 e3 na nL nF
    refine wpAny_handleBy_cons (codeAny_handlers_test ?_) (fun q => nomatch q)
    have ty : PySem.W.Looks (model X.prog X.w) s.heap (typeOf (.ref a)) cls := fun A Q E s k q => wpAny_typeOf_ref (k _ _ e1) (by rw [e2.1]; exact q)
    have mt := PySem.W.exm_one (M := model X.prog X.w) landed.kIn ty m
    have named : ∀ {Q : Value → Shared → Prop} {E : Value → Shared → Prop}, Q c s → wpAny (model X.prog X.w) (X.A.mark (some (.ref a))) (eval (.Name x q1) X.env) Q E s := by
      intro Q E q
      rcases hc with ⟨g, db, hm | ⟨hm, hv, hnn⟩⟩
      · exact ld_glob (X := X.suite a ((a, oe) :: (X.pn ++ pins))) S0 g hm q db
      · exact ld_blt (X := X.suite a ((a, oe) :: (X.pn ++ pins))) S0 g hm hv q hnn db
    apply named
    refine mt.here ?_
    cases hit with
    | false => exact ih (no rfl)
    | true =>
      refine codeAny_handlers_suite_as ?_
      refine HandSPX.lands_againZ fl fun h4 fl4 up4 => ?_
      have J4 : Inv X pins z H { s with heap := h4 } := I.landed nb fl4.1 (up.trans up4) os ag
      obtain ⟨oe4, vs4, f1, f2, f3⟩ := fl4.there
      obtain ⟨mL, mF⟩ := apart fl4
      refine store_ok (X := X.suite a ((a, oe4) :: (X.pn ++ pins))) (v := .ref a) (J4.suite f1 f3 na mL mF) hN slot (.inl own) rfl (fun s5 S5 => ?_) (.inr own)
      refine wpAny_mono ((run a oe4 cls d (X.pn ++ pins) f2 ⟨_, f3⟩).run [] s5 _ H _ S5 (yes rfl a na)) ?_ fun _ _ q => False.elim q
      intro f s6 hsp
      match f, hsp with
      | .next, hsp =>
        obtain ⟨z6, H6, S6, w6⟩ := hsp
        exact suite_end ok hN slot own S6 fun s7 J7 => ⟨_, _, J7, w6⟩
      | .brk, hsp =>
        obtain ⟨z6, H6, S6, w6⟩ := hsp
        exact suite_end ok hN slot own S6 fun s7 J7 => ⟨_, _, J7, w6⟩
      | .cont, hsp =>
        obtain ⟨z6, H6, S6, w6⟩ := hsp
        exact suite_end ok hN slot own S6 fun s7 J7 => ⟨_, _, J7, w6⟩
      | .ret u, hsp =>
        obtain ⟨v6, z6, H6, S6, r6, w6⟩ := hsp
        exact suite_end ok hN slot own S6 fun s7 J7 => ⟨_, _, _, J7, r6, w6⟩
theorem ps_try_named {body : List Stmt} {h₀ : ExceptHandler} {hds : List ExceptHandler} {l : List Clause} {pos : Pos} {tb : WX → TS} {W0 : WX} (hs : X.stack = X.env :: X.outer) (hf : X.env.frame = some X.env.locals) (hN : X.N.Nodup) (tk : Takes X W0)
    (hb : ∀ (W : WX) (pn : List (Addr × Obj)) (xe : Value → Shared → Prop), Takes (X.tr pn xe) W → PSs (X.tr pn xe) body (tb W)) (hh : Clauses X (h₀ :: hds) l) :
    PS X (.Try body (h₀ :: hds) [] [] pos) (fun D z H => tb (wNamed X.K W0 D l) D z H) := by
  constructor
  intro pins s z H D I h
  have ok := I.ok
  have frames : X.A.frames = some (X.env :: X.outer) := by rw [ok.frames, hs]
  apply wpAny_Try_except
  refine wpAny_mono ((hb (wNamed X.K W0 D l) (X.pn ++ pins) _ ?_).run [] s z H D (I.toTry _) h) ?_ fun e s1 q => q
  · intro u s' xx
    obtain ⟨a, B, sI, pins', z', H', cls, d, rfl, J', nb, up, sky, na, os, ag, w⟩ := xx
    have sky' : Sky B (X.env :: X.outer) a (Zc cls d) X.env.locals s'.heap := by
      rw [← hs]
      exact sky
    show wpAny (model X.prog X.w) X.A (noteFrame (.ref a) X.env) _ _ _
    refine Sky.land Zc.steady frames hf sky' fun h3 fl3 up3 => ?_
    exact in_clauses (s := { s' with heap := h3 }) tk hs hf hN (J'.ofTry ok) nb (up.trans up3) fl3 na os ag hh w
  · intro f s1 hsp
    match f, hsp with
    | .next, hsp =>
      obtain ⟨z', H', J', q⟩ := hsp
      exact wpAny_execs_nil ⟨z', H', J'.ofTry ok, q⟩
    | .brk, hsp =>
      obtain ⟨z', H', J', q⟩ := hsp
      exact ⟨z', H', J'.ofTry ok, q⟩
    | .cont, hsp =>
      obtain ⟨z', H', J', q⟩ := hsp
      exact ⟨z', H', J'.ofTry ok, q⟩
    | .ret u, hsp =>
      obtain ⟨v, z', H', J', r, q⟩ := hsp
      exact ⟨v, z', H', J'.ofTry ok, r, q⟩
end
end GL
set_option maxHeartbeats 4000000
/-! What was caught: its fields, isinstance. -/
namespace GL
open PySem PySem.Spec PyProof.Rows L2
/-- the caught error's fields: d its dict -/
def Fields (H : Hp) (d : Option Addr) (fs : List (Str × V)) : Prop := (d = none ∧ fs = []) ∨ ∃ dx, d = some dx ∧ H dx = some (.xd fs)
section
variable {X : Cx} {a C : Addr} {oe : Obj} {pn : List (Addr × Obj)} {d : Option Addr} {b : EB} {e : Expr} {te : TE} {f : Str} {pos : Pos}
theorem caught_inst {pins : List (Addr × Obj)} {z : L2.St} {H : Hp} {s : Shared} {fs : List (Str × V)} (I : Inv (X.suite a ((a, oe) :: pn)) pins z H s) (hz : Zc (.ref C) d oe) (hf : ∃ vs, oe.data = .fields vs) (hd : Fields H d fs) :
    ∃ od, PySem.W.InstAt s.heap a oe C od ∧ ∀ f v, fs.lookup f = some v → ∃ u oD, od = some oD ∧ RelV v u ∧ PySem.W.lookIn f oD = some (some u) := by
  have there : s.heap.get? a = some oe := (I.pin (a, oe) (List.mem_append.mpr (.inl List.mem_cons_self))).1
  obtain ⟨vs, hv⟩ := hf
  obtain ⟨oc, od, dt, sl⟩ := oe
  obtain ⟨h1, h2⟩ := hz
  dsimp only at h1 h2 hv
  subst h1 h2 hv
  rcases hd with ⟨rfl, rfl⟩ | ⟨dx, rfl, hx⟩
  · exact ⟨none, ⟨there, rfl, rfl, trivial⟩, fun f v z => nomatch z⟩
  · obtain ⟨mA, hns, hr⟩ := I.hok dx _ hx
    obtain ⟨oD, hD, look⟩ := lookIn_ns hns
    refine ⟨some oD, ⟨there, rfl, rfl, hD⟩, fun f v z => ?_⟩
    obtain ⟨u, hu, ru⟩ := RelO.some_of (v := v) (o := mA f) (by rw [← z]; exact hr f)
    exact ⟨u, oD, rfl, ru, by rw [look, hu]⟩
/-- e.f, e what was caught -/
def tCaught (K : PySem.W.Frag) (C a : Addr) (cls : Value) (d : Option Addr) (te : TE) (f : Str) : TE := fun z H Q => te z H fun x H1 => x = .ref a ∧ cls = .ref C ∧ ∃ (fs : List (Str × V)) (v : V), PySem.W.findIn K (.ref C) f = some none ∧ Fields H1 d fs ∧ fs.lookup f = some v ∧ Q v H1
theorem pe_caught {cls : Value} (T : XC X.K C b) (hz : Zc cls d oe) (hf : ∃ vs, oe.data = .fields vs) (he : PE (X.suite a ((a, oe) :: pn)) e te) (hb : attributeBase e f X.env (eval e X.env) = eval e X.env := by rfl) : PE (X.suite a ((a, oe) :: pn)) (.Attribute e f pos) (tCaught X.K C a cls d te f) := by
  constructor
  intro pins s z H Q I h
  refine attr_of hb (thn (he.run pins s z H _ I h) ?_)
  rintro u s1 ⟨x, H1, I1, rx, rfl, rfl, fs, v, no, hd, l, q⟩
  cases (show u = Value.ref a from rx)
  obtain ⟨od, J, look⟩ := caught_inst I1 hz hf hd
  obtain ⟨u, oD, rfl, ru, hl⟩ := look f v l
  obtain ⟨cd, hcl, _, hdct⟩ := T.data
  have has : PySem.W.hasDictIn X.K C = true := by
    unfold PySem.W.hasDictIn
    rw [hcl]
    exact hdct
  exact HandSPX.exc_get I1.kIn J T.ga T.gg T.exB (PySem.W.findObj_own has no rfl hl) (handed_of ru) ⟨v, H1, I1.tok _, ru, q⟩
/-- isinstance(e, c) -/
def rCaughtIs (K : PySem.W.Frag) (C a : Addr) (cls : Value) (d : Option Addr) : List V → Hp → VK → Prop := fun xs H Q => ∃ (c : V) (cv : Value) (k : Bool) (fs : List (Str × V)), xs = [.ref a, c] ∧ cls = .ref C ∧ Fields H d fs ∧ ClsV c cv ∧ PySem.W.kitOne K (.ref C) cv = some k ∧ Q (.bl k) H
theorem call_caughtIs {cls : Value} (T : XC X.K C b) (hz : Zc cls d oe) (hf : ∃ vs, oe.data = .fields vs) (hn : PySem.W.specialIn X.K (.builtin "object.__class__") "__get__" = some (some (.builtin "getset_descriptor.__get__"))) (ht : PySem.W.takesIn X.K (.builtin "object.__class__") = some true) :
    CallR (X.suite a ((a, oe) :: pn)) (.builtin "isinstance") (rCaughtIs X.K C a cls d) := by
  intro pins s z H xs us Q I r h
  obtain ⟨c, cv, k, fs, rfl, rfl, hd, hc, e, q⟩ := h
  obtain ⟨u1, u2, rfl, r1, r2⟩ := vals2 r
  cases (show u1 = Value.ref a from r1)
  cases hc.eq r2
  obtain ⟨od, J, _⟩ := caught_inst I hz hf hd
  obtain ⟨cd, hcl, _, _⟩ := T.data
  exact PySem.W.kia_one (PySem.W.kitx_exc (by rw [hcl]; rfl) T.ga T.gg T.exB T.kl hn ht T.ob) I.kIn J e (fun z => nomatch z) fun tk => ⟨.bl k, H, I.tok tk, rfl, q⟩
end
end GL
set_option maxHeartbeats 4000000
/-! A lambda handed to a def that calls it within try, the clauses with names. -/
namespace GL
open PySem PySem.Spec PyProof.Rows L2
section
variable {X : Cx} {pins : List (Addr × Obj)} {z : L2.St} {H : Hp} {s : Shared}
abbrev lamObj (X : Cx) (params : Arguments) (body : Expr) (scope : Scope) (pm : Value) (c' : Addr) (ctv : Value) : Obj := PySem.W.kla_obj "<lambda>" (X.env.qual ++ "<lambda>") params body scope (cloFrom X.env.cells scope.names []) pm c' ctv
/-- a(), a the parameter of the def that got the lambda: what the lambda lets out meets the clauses with the slots as they are -/
theorem pe_actAt {CXg : CXT} {Eg : XK} {Ng : List Str} {qg : Str} {sg : Scope} {g f c' : Addr} {cdg pm ctv : Value} {params : Arguments} {body : Expr} {scope : Scope} {k i : Nat} {a : Str} {pn : List (Addr × Obj)} {xe : Value → Shared → Prop} {W : WX} {tb : XK → TE} {p1 p2 : Pos}
    (I : Inv X pins z H s) (L : LamX.LamS X.env.scope scope) (made : s.heap.get? f = some (lamObj X params body scope pm c' ctv)) (free : H f = none) (nofr : f ∉ frs X.stack)
    (bare : bindArgs (PySem.W.kla_fn "<lambda>" (X.env.qual ++ "<lambda>") params body scope (cloFrom X.env.cells scope.names []) pm (.ref c') ctv) ⟨[], []⟩ = pure [])
    (tk : Takes ((cxOf CXg X.prog X.w X.K X.mg X.base Ng qg sg g cdg X.A X.stack s H Eg).tr pn xe) W) (room : Room (k + 1) (X.A.deeper (envOfC qg sg s.heap.objs.size g cdg)))
    (inner : ∀ (A : Around) (outer : List Env) (s2 : Shared) (H2 : Hp) (E : XK), A.guards = X.A.guards → Room k (A.deeper (LamX.lamEnv X scope s2.heap.objs.size f c')) → PE (LamX.lamCx X A outer s2 H2 E scope f c') body (tb E))
    (at_ : Ng[i]? = some a) (hv : Vis sg a) (hd : (a == ("__debug__" : Str)) = false := by decide) (hcd : (a == ("__classdict__" : Str)) = false := by decide) :
    PE ((cxOf CXg X.prog X.w X.K X.mg X.base Ng qg sg g cdg X.A X.stack s H Eg).tr pn xe) (.Call (.Name a p1) [] [] p2)
      (fun y HZ Q => y[i]? = some (some (.ref f)) ∧ HZ c' = some (LamX.CodeO c' (X.env.qual ++ "<lambda>")) ∧ tb (fun cls d H' => W cls d y H') z HZ Q) := by
  constructor
  intro pinsZ sZ y HZ Q IZ ⟨slot, code, rd⟩
  have nm : PE ((cxOf CXg X.prog X.w X.K X.mg X.base Ng qg sg g cdg X.A X.stack s H Eg).tr pn xe) (.Name a p1) _ := pe_var (pos := p1) (i := i) at_ hv hd hcd
  apply wpAny_Call_Name_kw
  refine thn (nm.run pinsZ sZ y HZ (fun v H1 => v = .ref f ∧ H1 = HZ) IZ ⟨.ref f, slot, rfl, rfl⟩) ?_
  rintro u s1 ⟨v, H1, I1, r1, rfl, rfl⟩
  cases (show u = Value.ref f from r1)
  have there : s1.heap.get? f = some (lamObj X params body scope pm c' ctv) := I1.base.keep f _ made free nofr (fun q => nomatch (show f ∈ ([] : List Addr) from q))
  refine PySem.W.callWith_F0 ⟨_, _, _, _, there⟩ ?_
  have un : Un (frs X.stack) [] H H1 s.heap s1.heap := I1.base
  obtain ⟨⟨oc, vs, t, e1, e2, e3⟩, _, _⟩ := I1.hok c' _ code
  have run : codeAny (model X.prog X.w) (X.A.deeper (envOfC qg sg s.heap.objs.size g cdg)) (.call (.ref f) ⟨[], []⟩) (CR (L2.CX X.prog X.w) (envOfC qg sg s.heap.objs.size g cdg :: X.stack) X.prog X.w H1 s1 Q fun cls d H' => W cls d y H') s1 := by
    refine PySem.W.kla_callFunE room.depth there rfl L.co L.gen rfl ⟨c', oc, vs, t, rfl, e1, e2, e3⟩ ?_
    rw [bare]
    refine wpAny_pure (wpAny_newFunctionEnv (fun n hn => (L.own n hn).2) (fun n hn => absurd hn (by simp)) (fun h₁ names but => ⟨I1.nolimit.fresh _ but, ?_⟩) L.kind)
    have kp : ∀ b o, s1.heap.get? b = some o → h₁.get? b = some o := fun b o q => but.extBut b o (Nat.ne_of_lt (Heap.lt_size q)) (Heap.get?_push_of_some _ q)
    have J : Inv (LamX.lamCx X (X.A.deeper (envOfC qg sg s.heap.objs.size g cdg)) (envOfC qg sg s.heap.objs.size g cdg :: X.stack) s1 H1 (fun cls d H' => W cls d y H') scope f c') [] z H1 { s1 with heap := h₁, toks := s1.toks + ([] : List (Str × Value)).length } :=
      LamX.lam_start2 I L I1.env0 room.hd un names kp
    refine PySem.W.kla_codeExpr (wpAny_mono ((inner (X.A.deeper (envOfC qg sg s.heap.objs.size g cdg)) _ s1 H1 _ rfl (room.deeper _)).run [] _ _ H1 Q J rd) ?_ fun e s' q => q)
    rintro v s' ⟨w', H', J', rv, q⟩
    exact ⟨w', H', J'.os, J'.bare, J'.base, J'.hok, rv, q⟩
  have out := passAt tk y
  refine wpAny_call (codeAny_mono run ?_)
  intro r s' q
  match r, q with
  | .error er, q => exact out pinsZ H1 s1 er s' I1 q
  | .ok (.ret u), q => exact I1.after q
  | .ok .next, q => exact False.elim q
  | .ok .brk, q => exact False.elim q
  | .ok .cont, q => exact False.elim q
end

/-- the def that calls what it got (a, its one parameter): TT what it makes of the lambda's reading -/
def Gives (X : Cx) (Ng : List Str) (x : Str) (sg : Scope) (g : Addr) (cdg : Value) (bg : List Stmt) (a q : Str) (k : Nat) (TT : (XK → Hp → VK → Prop) → Hp → VK → Prop) : Prop :=
  ∀ (f c' : Addr) (s : Shared) (H : Hp) (Q : VK) (tl : XK → Hp → VK → Prop), Room k (X.A.deeper (envOfC x sg s.heap.objs.size g cdg)) →
    (∀ (W : WX) (pn : List (Addr × Obj)) (xe : Value → Shared → Prop) (p1 p2 : Pos), Takes ((cxOf CX0 X.prog X.w X.K X.mg X.base Ng x sg g cdg X.A X.stack s H E0).tr pn xe) W →
      PE ((cxOf CX0 X.prog X.w X.K X.mg X.base Ng x sg g cdg X.A X.stack s H E0).tr pn xe) (.Call (.Name a p1) [] [] p2) (fun y HZ Q => y[0]? = some (some (.ref f)) ∧ HZ c' = some (LamX.CodeO c' q) ∧ tl (fun cls d H' => W cls d y H') HZ Q)) →
    H c' = some (LamX.CodeO c' q) → TT tl H Q → ∃ t, PSs (cxOf CX0 X.prog X.w X.K X.mg X.base Ng x sg g cdg X.A X.stack s H E0).nox bg t ∧ t { nx := fun _ H' => Q .non H', rt := Q } (L2.start Ng [.ref f]) H
section
variable {X : Cx}
/-- x(lambda: body) -/
theorem pe_told {T : List (Addr × Str)} {TT : (XK → Hp → VK → Prop) → Hp → VK → Prop} {x a : Str} {g c P : Addr} {k : Nat} {pg : Arguments} {bg : List Stmt} {sg : Scope} {dV kV doc pm cdv ct oc : Value} {an od : Option Addr} {osl : Array (Option Value)} {Ng : List Str}
    {params : Arguments} {body : Expr} {scope : Scope} {t : XK → TE} {p lpos pos : Pos} (hg : Gl X x) (hm : X.mg x = some (.ref g)) (hk : PySem.W.keepIn X.K (.ref g) = true)
    (lk : X.K.lookup g = some ⟨oc, od, .func (PySem.W.fnOf x x pg bg sg dV kV doc pm an cdv ct), osl⟩) (code : PySem.W.codeIn X.K cdv x = true) (hb : Binds X.K (PySem.W.fnOf x x pg bg sg dV kV doc pm an cdv ct) [a] []) (Sg : FnScope Ng [a] sg) (a0 : Ng[0]? = some a) (va : Vis sg a)
    (gives : Gives X Ng x sg g cdv bg a (X.env.qual ++ "<lambda>") (k + 1) TT) (TB : LamX.TabB X.base X.mg c P) (own : X.env.code = .ref c) (mT : (P, X.env.qual ++ "<lambda>") ∈ T) (one : ∀ p ∈ T, p.1 = P → p.2 = X.env.qual ++ "<lambda>")
    (hr : Room (k + 2) X.A) (L : LamX.LamS X.env.scope scope) (nodef : defaultsOf params X.env = ([], []))
    (bare : ∀ (q : Str) (cl : List (Str × Addr)) (pm cv ctv : Value), bindArgs (PySem.W.kla_fn "<lambda>" q params body scope cl pm cv ctv) ⟨[], []⟩ = pure [])
    (inner : ∀ (A : Around) (outer : List Env) (s : Shared) (H : Hp) (E : XK) (f c' : Addr), A.guards = X.A.guards → Room k (A.deeper (LamX.lamEnv X scope s.heap.objs.size f c')) → PE (LamX.lamCx X A outer s H E scope f c') body (t E))
    (hdb : (x == ("__debug__" : Str)) = false := by decide) (hd : (a == ("__debug__" : Str)) = false := by decide) (hcd : (a == ("__classdict__" : Str)) = false := by decide) :
    PE X (.Call (.Name x p) [.Lambda params body scope lpos] [] pos) (LamX.tLam T TT t) := by
  constructor
  intro pins s z H Q I ⟨tabs, h⟩
  apply wpAny_Call_Name_kw
  refine ld_glob I hg hm ?_ hdb
  refine PySem.W.callWith_K (h₀ := X.base) I.ok.mod.kin hk ?_ (by rfl) (by rfl)
  refine Calls.spliced_cons (LamX.lam_make2 I TB own mT one tabs nodef (L.has I.ok) ?_)
  intro f c' pm' ctv H1 s' I1 ext tabs1 made free nofr hco
  refine Calls.spliced_nil ⟨I1.kIn, ?_⟩
  have run : codeAny (model X.prog X.w) X.A (.call (.ref g) ⟨[.ref f], []⟩) (CR CX0 X.stack X.prog X.w H1 s' Q E0) s' := by
    refine LamX.run_ofS (N := Ng) (ps := [a]) (us := [.ref f]) (vs := [.ref f]) lk code Sg hr I1.env0 (hb s' [.ref f] I1.kIn rfl) (.cons rfl .nil) rfl fun room => ?_
    obtain ⟨t', ok, rd⟩ := gives f c' s' H1 Q (fun E H' Q' => t E z H' Q') room (fun W pn xe p1 p2 tk => pe_actAt (i := 0) I1 L made free nofr (bare _ _ _ _ _) tk room (fun A outer s2 H2 E hA hr2 => inner A outer s2 H2 E f c' hA hr2) a0 va hd hcd) hco (h H1 ext tabs1)
    exact ⟨t', ok.nox, rd⟩
  refine wpAny_call (codeAny_mono run ?_)
  intro r s2 q
  match r, q with
  | .error er, q => exact False.elim q
  | .ok (.ret u), q => exact I1.after q
  | .ok .next, q => exact False.elim q
  | .ok .brk, q => exact False.elim q
  | .ok .cont, q => exact False.elim q
end
end GL
set_option maxHeartbeats 8000000
/-! How lists of data are shown: bounds. -/
namespace GL
open PySem PySem.Spec PyProof.Rows L2
theorem textFrom_le : ∀ (ts : List Str) (k : Nat) (acc : Str), (textFrom k acc ts).length ≤ acc.length + piled ts
  | [], k, acc => by
    show acc.length ≤ _
    omega
  | t :: r, k, acc => by
    have ih := textFrom_le r (k + 1) (acc ++ (if k > 0 then ", " else "" : String) ++ t)
    have e : (acc ++ (if k > 0 then ", " else "" : String) ++ t).length ≤ acc.length + 2 + t.length := by
      rw [strLen_append, strLen_append]
      split
      · show acc.length + 2 + t.length ≤ _
        omega
      · show acc.length + 0 + t.length ≤ _
        omega
    rw [piled_cons]
    show (textFrom (k + 1) _ r).length ≤ _
    omega
theorem listText_le (ts : List Str) : (listText ts).length ≤ piled ts + 2 := by
  unfold listText
  rw [strLen_append]
  have h := textFrom_le ts 0 "["
  have e1 : ("[" : Str).length = 1 := rfl
  have e2 : ("]" : Str).length = 1 := rfl
  omega
/-- how a list of data is shown: bounds -/
theorem shown_list {ds : List PyData} {n m : Nat} (h : ∀ d ∈ ds, d.showable = true ∧ d.depth ≤ n ∧ d.shown.length ≤ m) : (PyData.list ds).showable = true ∧ (PyData.list ds).depth ≤ n + 1 ∧ (PyData.list ds).shown.length ≤ ds.length * (m + 2) + 2 := by
  have a : PyData.showableAll ds = true ∧ PyData.depthAll ds ≤ n ∧ piled (PyData.shownAll ds) ≤ ds.length * (m + 2) := by
    induction ds with
    | nil => exact ⟨rfl, Nat.zero_le _, Nat.zero_le _⟩
    | cons d ds ih =>
      obtain ⟨h1, h2, h3⟩ := h d List.mem_cons_self
      obtain ⟨g1, g2, g3⟩ := ih fun e he => h e (List.mem_cons_of_mem _ he)
      refine ⟨?_, ?_, ?_⟩
      · simp [PyData.showableAll, h1, g1]
      · simp only [PyData.depthAll]
        omega
      · simp only [PyData.shownAll]
        rw [piled_cons, List.length_cons, Nat.add_mul]
        omega
  refine ⟨by simp [PyData.showable, a.1], ?_, ?_⟩
  · simp only [PyData.depth]
    omega
  · simp only [PyData.shown]
    have := listText_le (PyData.shownAll ds)
    omega
theorem shown_int {i : Int} (h : i.natAbs.log2 < 1920) : (PyData.int i).showable = true ∧ (PyData.int i).depth ≤ 1 ∧ (PyData.int i).shown.length ≤ 1921 := by
  refine ⟨by simp [PyData.showable, h], by simp [PyData.depth], ?_⟩
  simp only [PyData.shown]
  rw [PySem.ofString_length]
  exact int_text_length_le (by decide) h
theorem shown_two {i j : Int} (hi : i.natAbs.log2 < 1920) (hj : j.natAbs.log2 < 1920) : (PyData.list [.int i, .int j]).showable = true ∧ (PyData.list [.int i, .int j]).depth ≤ 40 ∧ (PyData.list [.int i, .int j]).shown.length ≤ sizeLine := by
  obtain ⟨a, b, c⟩ := shown_list (ds := [.int i, .int j]) (n := 1) (m := 1921) (by
    intro d hd
    simp only [List.mem_cons, List.not_mem_nil, or_false] at hd
    rcases hd with rfl | rfl
    · exact shown_int hi
    · exact shown_int hj)
  refine ⟨a, by omega, ?_⟩
  rw [sizeLine_eq]
  have : ([PyData.int i, .int j] : List PyData).length = 2 := rfl
  rw [this] at c
  omega
/-! ### repr of data of any kind -/
def rReprV (K : PySem.W.Frag) : List V → Hp → VK → Prop := fun xs H Q => ∃ (v : V) (d : PyData), xs = [v] ∧ Dq K H v d ∧ d.showable = true ∧ d.depth ≤ 40 ∧ d.shown.length ≤ sizeLine ∧ Q (.str d.shown) H
theorem call_reprV {X : Cx} (S : SysK X.K) (gd : X.A.guards = some []) (hu : X.A.units + 64 < cLine) : CallR X (.builtin "repr") (rReprV X.K) := by
  intro pins s z H xs us Q I r h
  obtain ⟨v, d, rfl, hd, sh, dp, sz, q⟩ := h
  obtain ⟨u, rfl, r1⟩ := vals1 r
  have ref : ∀ {a : Addr}, v = .ref a → wpAny (model X.prog X.w) X.A (PySem.call (.builtin "repr") [u]) (EP X pins z Q) X.xe s := by
    rintro a rfl
    exact call_reprD S gd hu pins s z H [.ref a] [u] Q I (.cons r1 .nil) ⟨a, d, rfl, hd, sh, dp, sz, q⟩
  cases hd with
  | non =>
    cases r1
    simp only [PyData.shown] at q
    exact PySem.P.repr_of_none ⟨.str _, H, I.tok _, ⟨_, rfl⟩, q⟩
  | bl b =>
    cases r1
    simp only [PyData.shown] at q
    exact PySem.P.repr_of_bool ⟨.str _, H, I.tok _, ⟨_, rfl⟩, q⟩
  | int i =>
    obtain ⟨t, rfl⟩ := r1
    simp only [PyData.shown] at q
    exact PySem.P.repr_of_int (by simpa [PyData.showable] using sh) ⟨.str _, H, I.tok _, ⟨_, rfl⟩, q⟩
  | str x =>
    obtain ⟨t, rfl⟩ := r1
    simp only [PyData.shown] at q sz
    exact PySem.P.repr_of_str ⟨.str _, H, I.tok _, ⟨_, rfl⟩, q⟩ sz
  | lst _ _ => exact ref rfl
  | tup _ _ => exact ref rfl
  | dct _ _ => exact ref rfl
end GL
set_option maxHeartbeats 1000000
/-! == and != of tuples and lists whose items are compared by own methods: which of the two answers is given. -/
namespace PySem
namespace GE
open PySem.SeqAt
open AutoSeq1 (wpAny_loadPart')
open MeetsSeq MeetsSeq2 MeetsSeq3 SeqRoads2
section
variable {prog : Program} {w : World} {A : Around} {R : Result → Shared → Prop}
/-- one pair after the other: es i is what the i-th one gives; F holds at the end -/
def Turns (prog : Program) (w : World) (A : Around) (E : Value → Shared → Prop) (xs ys : Array Value) (es : Nat → Bool) (J : Nat → Shared → Prop) (F : Shared → Prop) : Prop :=
  ∀ i (p : i < xs.size) (q : i < ys.size) (s : Shared), J i s → wpAny (model prog w) A.in1 (eqBool xs[i] ys[i]) (fun r s' => r = es i ∧ F s' ∧ (es i = true → J (i + 1) s')) E s
def allB (m n : Nat) (es : Nat → Bool) (i : Nat) : Bool := ((List.range (min m n)).drop i).all es && m == n
theorem allB_step {m n i : Nat} {es : Nat → Bool} (h : i < min m n) : allB m n es i = (es i && allB m n es (i + 1)) := by
  have e : (List.range (min m n)).drop i = i :: (List.range (min m n)).drop (i + 1) := by simp [List.drop_eq_getElem_cons, h]
  unfold allB
  rw [e, List.all_cons, Bool.and_assoc]
theorem allB_end {m n i : Nat} {es : Nat → Bool} (h : min m n ≤ i) : allB m n es i = (m == n) := by
  unfold allB
  rw [List.drop_of_length_le (by simpa using h), List.all_nil, Bool.true_and]
theorem tup_eqB {l b : Addr} {xs ys : Array Value} {n m : Nat} {dd ee : Option Addr} {sl tl : Array (Option Value)} {J : Nat → Shared → Prop} {F : Shared → Prop} {es : Nat → Bool} (turn : Turns prog w A (fun e s' => R (.error e) s') xs ys es J F) (hJ : ∀ i s, J i s → F s)
    (fin : ∀ s, F s → R (.ok (.ret (.bool (allB xs.size ys.size es 0)))) s) {s : Shared} (hl : s.heap.get? l = some { cls := .type "tuple", dict := dd, data := .seq xs n, slots := sl }) (hb : s.heap.get? b = some { cls := .type "tuple", dict := ee, data := .seq ys m, slots := tl }) (h : J 0 s) :
    wpAny (model prog w) A.in1 (Builtin.«tuple.__eq__» ⟨[.ref l, .ref b], []⟩) (GQ.FinOf prog w A R) (fun e s' => R (.error e) s') s := by
  have f2 := AutoSeq1.sub_tuple_tuple
  have zl : (xs.toList.zip ys.toList).length = min xs.size ys.size := by simp
  have h0 := h
  generalize hk : allB xs.size ys.size es 0 = k at fin
  obtain ⟨hp, g, d, tk, os⟩ := s
  wp_walk using wpAny_loadPart' hl, wpAny_loadPart' hb, wpAny_forIn_list _ (fun rest c s' => c.1 = none ∧ ∃ i, rest = (xs.toList.zip ys.toList).drop i ∧ allB xs.size ys.size es i = k ∧ J i s') _
  case turn =>
    rintro ⟨y, x⟩ rest c s' ⟨hc, i, hz, hi, hJi⟩
    have lt : i < (xs.toList.zip ys.toList).length := by
      apply Nat.lt_of_not_le
      intro z
      rw [List.drop_of_length_le z] at hz
      cases hz
    have lm : i < min xs.size ys.size := zl ▸ lt
    have p : i < xs.size := Nat.lt_of_lt_of_le lm (Nat.min_le_left _ _)
    have q : i < ys.size := Nat.lt_of_lt_of_le lm (Nat.min_le_right _ _)
    rw [List.drop_eq_getElem_cons lt] at hz
    injection hz with e1 e2
    have ey : y = xs[i] := by simpa using congrArg Prod.fst e1
    have ex : x = ys[i] := by simpa using congrArg Prod.snd e1
    subst ey ex
    rw [allB_step lm] at hi
    refine wpAny_bind (wpAny_mono (turn i p q s' hJi) (fun r s2 z => ?_) fun _ _ z => z)
    obtain ⟨rfl, hF, hJ2⟩ := z
    cases he : es i with
    | true =>
      rw [he, Bool.true_and] at hi
      wp_walk
      exact ⟨rfl, i + 1, e2, hi, hJ2 he⟩
    | false =>
      rw [he, Bool.false_and] at hi
      subst hi
      wp_walk
      exact fin _ hF
  case fin =>
    rintro ⟨c1, c2⟩ s' ⟨hc, i, hz, hi, hJi⟩
    simp only at hc
    subst hc
    have ge : min xs.size ys.size ≤ i := by
      rw [← zl]
      apply Nat.le_of_not_lt
      intro z
      rw [List.drop_eq_getElem_cons z] at hz
      cases hz
    rw [allB_end ge] at hi
    subst hi
    wp_walk
    simpa [Builtin.Tuple.tupleCompareSizes] using fin _ (hJ _ _ hJi)
  case h =>
    exact ⟨rfl, 0, rfl, hk, h0⟩
theorem tup_neB {l b : Addr} {xs ys : Array Value} {n m : Nat} {dd ee : Option Addr} {sl tl : Array (Option Value)} {J : Nat → Shared → Prop} {F : Shared → Prop} {es : Nat → Bool} (turn : Turns prog w A (fun e s' => R (.error e) s') xs ys es J F) (hJ : ∀ i s, J i s → F s)
    (fin : ∀ s, F s → R (.ok (.ret (.bool !(allB xs.size ys.size es 0)))) s) {s : Shared} (hl : s.heap.get? l = some { cls := .type "tuple", dict := dd, data := .seq xs n, slots := sl }) (hb : s.heap.get? b = some { cls := .type "tuple", dict := ee, data := .seq ys m, slots := tl }) (h : J 0 s) :
    wpAny (model prog w) A.in1 (Builtin.«tuple.__ne__» ⟨[.ref l, .ref b], []⟩) (GQ.FinOf prog w A R) (fun e s' => R (.error e) s') s := by
  have f2 := AutoSeq1.sub_tuple_tuple
  have zl : (xs.toList.zip ys.toList).length = min xs.size ys.size := by simp
  have h0 := h
  generalize hk : allB xs.size ys.size es 0 = k at fin
  obtain ⟨hp, g, d, tk, os⟩ := s
  wp_walk using wpAny_loadPart' hl, wpAny_loadPart' hb, wpAny_forIn_list _ (fun rest c s' => c.1 = none ∧ ∃ i, rest = (xs.toList.zip ys.toList).drop i ∧ allB xs.size ys.size es i = k ∧ J i s') _
  case turn =>
    rintro ⟨y, x⟩ rest c s' ⟨hc, i, hz, hi, hJi⟩
    have lt : i < (xs.toList.zip ys.toList).length := by
      apply Nat.lt_of_not_le
      intro z
      rw [List.drop_of_length_le z] at hz
      cases hz
    have lm : i < min xs.size ys.size := zl ▸ lt
    have p : i < xs.size := Nat.lt_of_lt_of_le lm (Nat.min_le_left _ _)
    have q : i < ys.size := Nat.lt_of_lt_of_le lm (Nat.min_le_right _ _)
    rw [List.drop_eq_getElem_cons lt] at hz
    injection hz with e1 e2
    have ey : y = xs[i] := by simpa using congrArg Prod.fst e1
    have ex : x = ys[i] := by simpa using congrArg Prod.snd e1
    subst ey ex
    rw [allB_step lm] at hi
    refine wpAny_bind (wpAny_mono (turn i p q s' hJi) (fun r s2 z => ?_) fun _ _ z => z)
    obtain ⟨rfl, hF, hJ2⟩ := z
    cases he : es i with
    | true =>
      rw [he, Bool.true_and] at hi
      wp_walk
      exact ⟨rfl, i + 1, e2, hi, hJ2 he⟩
    | false =>
      rw [he, Bool.false_and] at hi
      subst hi
      wp_walk
      exact fin _ hF
  case fin =>
    rintro ⟨c1, c2⟩ s' ⟨hc, i, hz, hi, hJi⟩
    simp only at hc
    subst hc
    have ge : min xs.size ys.size ≤ i := by
      rw [← zl]
      apply Nat.le_of_not_lt
      intro z
      rw [List.drop_eq_getElem_cons z] at hz
      cases hz
    rw [allB_end ge] at hi
    subst hi
    wp_walk
    simpa [Builtin.Tuple.tupleCompareSizes, bne] using fin _ (hJ _ _ hJi)
  case h =>
    exact ⟨rfl, 0, rfl, hk, h0⟩
/-- the two lists are read anew at each turn -/
def LTurns (prog : Program) (w : World) (A : Around) (E : Value → Shared → Prop) (l b : Addr) (N : Nat) (es : Nat → Bool) (J : Nat → Shared → Prop) (F : Shared → Prop) : Prop :=
  ∀ i (s : Shared), J i s → ∃ (xs ys : Array Value) (n m : Nat), s.heap.get? l = some { cls := .type "list", data := .seq xs n } ∧ s.heap.get? b = some { cls := .type "list", data := .seq ys m } ∧ xs.size = N ∧ ys.size = N ∧
    ∀ (p : i < xs.size) (q : i < ys.size), wpAny (model prog w) A.in1 (eqBool xs[i] ys[i]) (fun r s' => r = es i ∧ F s' ∧ (es i = true → J (i + 1) s')) E s
/-- both can be read -/
def LRead (l b : Addr) (N : Nat) (F : Shared → Prop) : Prop := ∀ s : Shared, F s → ∃ (xs ys : Array Value) (n m : Nat), s.heap.get? l = some { cls := .type "list", data := .seq xs n } ∧ s.heap.get? b = some { cls := .type "list", data := .seq ys m } ∧ xs.size = N ∧ ys.size = N
theorem lst_loopeqB {l b : Addr} {N : Nat} {J : Nat → Shared → Prop} {F : Shared → Prop} {es : Nat → Bool} {k : Bool} (turn : LTurns prog w A (fun e s' => R (.error e) s') l b N es J F) (rd : LRead l b N F) (hJF : ∀ i s, J i s → F s) (fin : ∀ s, F s → R (.ok (.ret (.bool k))) s) (c : Nat) :
    ∀ i : Nat, N - i = c → i ≤ N → allB N N es i = k → ∀ s, J i s → wpAny (model prog w) A.in1 (Builtin.«list.__eq__.loop» ⟨[.ref l, .ref b, rawInt i, rawInt 2], []⟩) (GQ.FinOf prog w A R) (fun e s' => R (.error e) s') s := by
  induction c with
  | zero =>
    intro i hc hi hk s hJ
    obtain ⟨xs, ys, n, m, hl, hb, s1, s2, _⟩ := turn i s hJ
    have last : i = N := by omega
    have hq := fin s (hJF _ _ hJ)
    rw [allB_end (by omega)] at hk
    subst hk
    obtain ⟨hp, g, d, tk, os⟩ := s
    wp_walk using wpAny_loadPart' hl, wpAny_loadPart' hb
    have o1 : xs[((i : Nat) : Int).toNat]? = none := by simp; omega
    have o2 : ys[((i : Nat) : Int).toNat]? = none := by simp; omega
    rw [o1, o2]
    wp_walk using wpAny_loadPart' hl, wpAny_loadPart' hb
    show R (.ok (.ret (.bool (xs.size == ys.size)))) _
    rw [s1, s2]
    simpa using hq
  | succ c ih =>
    intro i hc hi hk s hJ
    obtain ⟨xs, ys, n, m, hl, hb, s1, s2, one⟩ := turn i s hJ
    have p : i < xs.size := by omega
    have q : i < ys.size := by omega
    have ht := one p q
    rw [allB_step (by omega)] at hk
    obtain ⟨hp, g, d, tk, os⟩ := s
    wp_walk using wpAny_loadPart' hl, wpAny_loadPart' hb
    have o1 : xs[((i : Nat) : Int).toNat]? = some xs[i] := by simp [p]
    have o2 : ys[((i : Nat) : Int).toNat]? = some ys[i] := by simp [q]
    have nx : ((i : Int) + 1) = ((i + 1 : Nat) : Int) := by omega
    rw [o1, o2]
    refine wpAny_bind (wpAny_mono ht (fun r s2 z => ?_) fun _ _ z => z)
    obtain ⟨rfl, hF, hJ2⟩ := z
    cases he : es i with
    | true =>
      rw [he, Bool.true_and] at hk
      have more := ih (i + 1) (by omega) (by omega) hk s2 (hJ2 he)
      obtain ⟨hp2, g2, d2, tk2, os2⟩ := s2
      wp_walk
      rw [nx]
      refine ⟨plainId_quiet plain_eq_loop _, codeAny_builtin entry_eq_loop ?_⟩
      rw [Around.under_plainId plain_eq_loop _]
      exact more
    | false =>
      rw [he, Bool.false_and] at hk
      subst hk
      obtain ⟨xs2, ys2, n2, m2, hl2, hb2, t1, t2⟩ := rd s2 hF
      have hq := fin s2 hF
      obtain ⟨hp2, g2, d2, tk2, os2⟩ := s2
      wp_walk using wpAny_loadPart' hl2, wpAny_loadPart' hb2
      have u1 : xs2[((i : Nat) : Int).toNat]? = some (xs2[i]'(by omega)) := by simp
      have u2 : ys2[((i : Nat) : Int).toNat]? = some (ys2[i]'(by omega)) := by simp
      rw [u1, u2]
      wp_walk
      exact hq
theorem lst_eqB {l b : Addr} {N : Nat} {J : Nat → Shared → Prop} {F : Shared → Prop} {es : Nat → Bool} {k : Bool} (turn : LTurns prog w A (fun e s' => R (.error e) s') l b N es J F) (rd : LRead l b N F) (hJF : ∀ i s, J i s → F s) (fin : ∀ s, F s → R (.ok (.ret (.bool k))) s) (hk : allB N N es 0 = k) {s : Shared} (h : J 0 s) :
    wpAny (model prog w) A.in1 (Builtin.«list.__eq__» ⟨[.ref l, .ref b], []⟩) (GQ.FinOf prog w A R) (fun e s' => R (.error e) s') s := by
  obtain ⟨xs, ys, n, m, hl, hb, s1, s2, _⟩ := turn 0 s h
  have more := lst_loopeqB (A := A) turn rd hJF fin _ 0 rfl (Nat.zero_le _) hk s h
  obtain ⟨hp, g, d, tk, os⟩ := s
  have f3 := AutoSeq1.sub_list_list
  have same : ¬ (xs.size != ys.size) = true := by simp [s1, s2]
  wp_walk using wpAny_loadPart' hl, wpAny_loadPart' hb
  refine ⟨plainId_quiet plain_eq_loop _, codeAny_builtin entry_eq_loop ?_⟩
  rw [Around.under_plainId plain_eq_loop _]
  exact more
theorem lst_loopneB {l b : Addr} {N : Nat} {J : Nat → Shared → Prop} {F : Shared → Prop} {es : Nat → Bool} {k : Bool} (turn : LTurns prog w A (fun e s' => R (.error e) s') l b N es J F) (rd : LRead l b N F) (hJF : ∀ i s, J i s → F s) (fin : ∀ s, F s → R (.ok (.ret (.bool !k))) s) (c : Nat) :
    ∀ i : Nat, N - i = c → i ≤ N → allB N N es i = k → ∀ s, J i s → wpAny (model prog w) A.in1 (Builtin.«list.__eq__.loop» ⟨[.ref l, .ref b, rawInt i, rawInt 3], []⟩) (GQ.FinOf prog w A R) (fun e s' => R (.error e) s') s := by
  induction c with
  | zero =>
    intro i hc hi hk s hJ
    obtain ⟨xs, ys, n, m, hl, hb, s1, s2, _⟩ := turn i s hJ
    have last : i = N := by omega
    have hq := fin s (hJF _ _ hJ)
    rw [allB_end (by omega)] at hk
    subst hk
    obtain ⟨hp, g, d, tk, os⟩ := s
    wp_walk using wpAny_loadPart' hl, wpAny_loadPart' hb
    have o1 : xs[((i : Nat) : Int).toNat]? = none := by simp; omega
    have o2 : ys[((i : Nat) : Int).toNat]? = none := by simp; omega
    rw [o1, o2]
    wp_walk using wpAny_loadPart' hl, wpAny_loadPart' hb
    show R (.ok (.ret (.bool (xs.size != ys.size)))) _
    rw [s1, s2]
    simpa using hq
  | succ c ih =>
    intro i hc hi hk s hJ
    obtain ⟨xs, ys, n, m, hl, hb, s1, s2, one⟩ := turn i s hJ
    have p : i < xs.size := by omega
    have q : i < ys.size := by omega
    have ht := one p q
    rw [allB_step (by omega)] at hk
    obtain ⟨hp, g, d, tk, os⟩ := s
    wp_walk using wpAny_loadPart' hl, wpAny_loadPart' hb
    have o1 : xs[((i : Nat) : Int).toNat]? = some xs[i] := by simp [p]
    have o2 : ys[((i : Nat) : Int).toNat]? = some ys[i] := by simp [q]
    have nx : ((i : Int) + 1) = ((i + 1 : Nat) : Int) := by omega
    rw [o1, o2]
    refine wpAny_bind (wpAny_mono ht (fun r s2 z => ?_) fun _ _ z => z)
    obtain ⟨rfl, hF, hJ2⟩ := z
    cases he : es i with
    | true =>
      rw [he, Bool.true_and] at hk
      have more := ih (i + 1) (by omega) (by omega) hk s2 (hJ2 he)
      obtain ⟨hp2, g2, d2, tk2, os2⟩ := s2
      wp_walk
      rw [nx]
      refine ⟨plainId_quiet plain_eq_loop _, codeAny_builtin entry_eq_loop ?_⟩
      rw [Around.under_plainId plain_eq_loop _]
      exact more
    | false =>
      rw [he, Bool.false_and] at hk
      subst hk
      obtain ⟨xs2, ys2, n2, m2, hl2, hb2, t1, t2⟩ := rd s2 hF
      have hq := fin s2 hF
      obtain ⟨hp2, g2, d2, tk2, os2⟩ := s2
      wp_walk using wpAny_loadPart' hl2, wpAny_loadPart' hb2
      have u1 : xs2[((i : Nat) : Int).toNat]? = some (xs2[i]'(by omega)) := by simp
      have u2 : ys2[((i : Nat) : Int).toNat]? = some (ys2[i]'(by omega)) := by simp
      rw [u1, u2]
      wp_walk
      exact hq
theorem lst_neB {l b : Addr} {N : Nat} {J : Nat → Shared → Prop} {F : Shared → Prop} {es : Nat → Bool} {k : Bool} (turn : LTurns prog w A (fun e s' => R (.error e) s') l b N es J F) (rd : LRead l b N F) (hJF : ∀ i s, J i s → F s) (fin : ∀ s, F s → R (.ok (.ret (.bool !k))) s) (hk : allB N N es 0 = k) {s : Shared} (h : J 0 s) :
    wpAny (model prog w) A.in1 (Builtin.«list.__ne__» ⟨[.ref l, .ref b], []⟩) (GQ.FinOf prog w A R) (fun e s' => R (.error e) s') s := by
  obtain ⟨xs, ys, n, m, hl, hb, s1, s2, _⟩ := turn 0 s h
  have more := lst_loopneB (A := A) turn rd hJF fin _ 0 rfl (Nat.zero_le _) hk s h
  obtain ⟨hp, g, d, tk, os⟩ := s
  have f3 := AutoSeq1.sub_list_list
  have same : ¬ (xs.size != ys.size) = true := by simp [s1, s2]
  wp_walk using wpAny_loadPart' hl, wpAny_loadPart' hb
  refine ⟨plainId_quiet plain_eq_loop _, codeAny_builtin entry_eq_loop ?_⟩
  rw [Around.under_plainId plain_eq_loop _]
  exact more
end
end GE
end PySem
set_option maxHeartbeats 1000000
/-! == and != of tuples and lists of own instances, as rules: which answer is given. -/
namespace GL
open PySem PySem.Spec PyProof.Rows L2
abbrev DB : Type := V → V → Bool → Hp → Prop
def MonB (D : DB) : Prop := ∀ x y b H H', Same H H' → D x y b H → D x y b H'
/-- == inside a builtin gives what D says -/
def EqB (X : Cx) (n : Nat) (D : DB) : Prop :=
  ∀ (A : Around) (pins : List (Addr × Obj)) (s : Shared) (σ : L2.St) (H : Hp) (x y : V) (u v : Value) (b : Bool), Sub X n A → Inv X pins σ H s → L2.RelV x u → L2.RelV y v → D x y b H →
    wpAny (model X.prog X.w) A (eqBool u v) (fun r s' => r = b ∧ ∃ H', Inv X pins σ H' s' ∧ Same H H') X.xe s
/-- == (op = .Eq), != (op = .NotEq) as comparisons; g: what is made of D's word -/
def RcB (X : Cx) (n : Nat) (op : CmpOp) (g : Bool → Bool) (D : DB) : Prop :=
  ∀ (A : Around) (pins : List (Addr × Obj)) (s : Shared) (σ : L2.St) (H : Hp) (x y : V) (u v : Value) (b : Bool), Sub X n A → Inv X pins σ H s → L2.RelV x u → L2.RelV y v → D x y b H →
    wpAny (model X.prog X.w) A (richCompare op u v) (fun r s' => r = .bool (g b) ∧ ∃ H', Inv X pins σ H' s' ∧ Same H H') X.xe s
section
variable {X : Cx} {n m : Nat} {D D' : DB}
theorem EqB.mono (h : EqB X n D) (l : n ≤ m) : EqB X m D := fun A pins s σ H x y u v b sb => h A pins s σ H x y u v b (sb.mono l)
theorem EqB.or (h : EqB X n D) (h' : EqB X n D') : EqB X n (fun x y b H => D x y b H ∨ D' x y b H) := by
  intro A pins s σ H x y u v b sb I rx ry d
  rcases d with d | d
  · exact h A pins s σ H x y u v b sb I rx ry d
  · exact h' A pins s σ H x y u v b sb I rx ry d
theorem MonB.or (h : MonB D) (h' : MonB D') : MonB (fun x y b H => D x y b H ∨ D' x y b H) := fun x y b H H' k d => d.imp (h x y b H H' k) (h' x y b H H' k)
/-- flat things -/
def FlatB : DB := fun x y b _ => flatV x = true ∧ flatV y = true ∧ b = eqV x y
theorem monB_flat : MonB FlatB := fun _ _ _ _ _ _ d => d
theorem eqB_flat : EqB X 0 FlatB := by
  intro A pins s σ H x y u v b sb I rx ry d
  obtain ⟨fx, fy, rfl⟩ := d
  exact eqAt_V (A := A) (s := s) rx ry fx fy X.prog X.w X.xe _ ⟨rfl, H, I, fun _ _ e => e⟩
/-- the same thing is equal to itself -/
theorem RcB.eqB (h : RcB X n .Eq id D) (hr : ∀ x y b H, D x y b H → ∃ a c, x = .ref a ∧ y = .ref c ∧ (a = c → b = true)) : EqB X n D := by
  intro A pins s σ H x y u v b sb I rx ry d
  obtain ⟨a, c, rfl, rfl, same⟩ := hr _ _ _ _ d
  cases (show u = Value.ref a from rx)
  cases (show v = Value.ref c from ry)
  by_cases e : a = c
  · cases e
    rw [same rfl]
    exact SeqAt.EqAt.same (A := A) (s := s) (.ref a) X.prog X.w X.xe _ ⟨rfl, H, I, fun _ _ e => e⟩
  · refine GQ.eqBool_refG e (wpAny_mono (h A pins s σ H (V.ref a) (V.ref c) _ _ b sb I rfl rfl d) (fun r s' z => ?_) fun _ _ z => z)
    obtain ⟨rfl, z⟩ := z
    exact ⟨b, rfl, rfl, z⟩
/-- two instances of one class, by its own __eq__ -/
def InsB (C : Addr) (sp : Sp) (E : XK) : DB := fun x y b H => ∃ a c dx dy fs gs, x = .ref a ∧ y = .ref c ∧ H a = some (.ins C dx fs) ∧ H c = some (.ins C dy gs) ∧ (a = c → b = true) ∧ sp [x, y] H (fun v H' => v = .bl b ∧ Same H H') E
theorem rcB_ins {CX : CXT} {C f : Addr} {sp : Sp} {E : XK} (B : GL.OwnEq X.K C f) (F : FnR X.prog X.w X.K X.mg X.base CX n f sp) (hx : Passes CX X E) : RcB X n .Eq id (InsB C sp E) := by
  intro A pins s σ H x y u v b sb I rx ry d
  obtain ⟨a, c, dx, dy, fs, gs, rfl, rfl, ha, hc, _, q⟩ := d
  cases (show u = Value.ref a from rx)
  cases (show v = Value.ref c from ry)
  obtain ⟨ox, od, J⟩ := inst_of I ha
  obtain ⟨oy, oe, J'⟩ := inst_of I hc
  have e0 : Env0 X.prog X.w X.K X.mg X.base A X.stack s H := by
    have e := I.env0
    exact { e with frames := sb.fr.trans e.frames }
  have run := F A X.stack s H [.ref a, .ref c] [.ref a, .ref c] _ E sb.room e0 (Paired.cons (a := V.ref a) (b := Value.ref a) rfl (Paired.cons (a := V.ref c) (b := Value.ref c) rfl .nil)) q
  have z : wpAny (model X.prog X.w) A (PySem.call (.ref f) [.ref a, .ref c]) (PySem.W.CmpBack fun r s' => r = .bool b ∧ ∃ H', Inv X pins σ H' s' ∧ Same H H') X.xe s := by
    refine wpAny_call (codeAny_mono run fun r s' z => ?_)
    match r, z with
    | .error er, z => exact hx pins σ H s er s' I z
    | .ok .next, z => exact False.elim z
    | .ok .brk, z => exact False.elim z
    | .ok .cont, z => exact False.elim z
    | .ok (.ret w), z =>
      obtain ⟨z1, H', I', rz, rfl, k⟩ := I.after z
      cases (show w = Value.bool b from rz)
      exact ⟨rfl, H', I', k⟩
  rcases s with ⟨hp, g, dd, tk, os⟩
  have e : PySem.W.findIn X.K (.ref C) (cmpInfo .Eq).2.1 = some (some (.ref f)) := B.m.at_
  exact PySem.GO.cmp_any (op := .Eq) (.inl rfl) sb.room.units0 I.kIn J J'.type (by simp [PySem.W.notFirst]) e (PySem.W.bind_fn I.kIn _ (isFn_ty B.m.fn)) z
theorem eqB_ins {CX : CXT} {C f : Addr} {sp : Sp} {E : XK} (B : GL.OwnEq X.K C f) (F : FnR X.prog X.w X.K X.mg X.base CX n f sp) (hx : Passes CX X E) : EqB X n (InsB C sp E) :=
  (rcB_ins B F hx).eqB fun x y b H d => by
    obtain ⟨a, c, dx, dy, fs, gs, e1, e2, _, _, same, _⟩ := d
    exact ⟨a, c, e1, e2, same⟩

/-! ### item by item -/
def ItemsB (D : DB) (xs ys : List V) (es : Nat → Bool) (H : Hp) : Prop := ∀ (i : Nat) x y, (∀ j, j < i → es j = true) → xs[i]? = some x → ys[i]? = some y → D x y (es i) H
/-- as far as the items ahead were equal -/
def LoopB (X : Cx) (pins : List (Addr × Obj)) (σ : L2.St) (H : Hp) (es : Nat → Bool) (i : Nat) (s' : Shared) : Prop := LoopI X pins σ H s' ∧ ∀ j, j < i → es j = true
theorem ItemsB.same (hD : MonB D) {xs ys : List V} {es : Nat → Bool} {H H' : Hp} (k : Same H H') (p : ItemsB D xs ys es H) : ItemsB D xs ys es H' := fun i x y h0 h1 h2 => hD _ _ _ _ _ k (p i x y h0 h1 h2)
theorem one_turn (hD : MonB D) (h : EqB X n D) {A : Around} (sb : Sub X (n + 1) A) {pins : List (Addr × Obj)} {σ : L2.St} {H : Hp} {xs ys : List V} {es : Nat → Bool} {us vs : List Value} (p : ItemsB D xs ys es H) (r : Vals xs us) (r2 : Vals ys vs)
    (i : Nat) (h1 : i < us.toArray.size) (h2 : i < vs.toArray.size) (s' : Shared) (l : LoopB X pins σ H es i s') :
    wpAny (model X.prog X.w) A.in1 (eqBool us.toArray[i] vs.toArray[i]) (fun r s2 => r = es i ∧ LoopI X pins σ H s2 ∧ (es i = true → LoopB X pins σ H es (i + 1) s2)) X.xe s' := by
  obtain ⟨⟨H1, I1, k1⟩, ahead⟩ := l
  have l1 : i < us.length := by simpa using h1
  have l2 : i < vs.length := by simpa using h2
  have m1 : i < xs.length := by rw [r.length]; exact l1
  have m2 : i < ys.length := by rw [r2.length]; exact l2
  obtain ⟨u, hu, ru⟩ := r.get (List.getElem?_eq_getElem m1)
  obtain ⟨v, hv, rv⟩ := r2.get (List.getElem?_eq_getElem m2)
  have eu : us.toArray[i] = u := by
    rw [List.getElem?_eq_getElem l1] at hu
    simpa using Option.some.inj hu
  have ev : vs.toArray[i] = v := by
    rw [List.getElem?_eq_getElem l2] at hv
    simpa using Option.some.inj hv
  rw [eu, ev]
  refine wpAny_mono (h A.in1 pins s' σ H1 _ _ u v _ sb.in1 I1 ru rv (hD _ _ _ _ _ k1 (p i _ _ ahead (List.getElem?_eq_getElem m1) (List.getElem?_eq_getElem m2)))) (fun r s2 z => ?_) fun _ _ z => z
  obtain ⟨rfl, H2, I2, k2⟩ := z
  refine ⟨rfl, ⟨H2, I2, k1.trans k2⟩, fun e => ⟨⟨H2, I2, k1.trans k2⟩, fun j hj => ?_⟩⟩
  by_cases q : j = i
  · rw [q]
    exact e
  · exact ahead j (by omega)
def TupB (K : PySem.W.Frag) (D : DB) : DB := fun x y b H => ∃ a c xs ys es, x = .ref a ∧ y = .ref c ∧ SqT K H a xs ∧ SqT K H c ys ∧ ItemsB D xs ys es H ∧ b = PySem.GE.allB xs.length ys.length es 0
theorem rcB_tup (hD : MonB D) (h : EqB X n D) : RcB X (n + 1) .Eq id (TupB X.K D) := by
  intro A pins s σ H x y u v b sb I rx ry d
  obtain ⟨a, c, xs, ys, es, rfl, rfl, ha, hc, p, rfl⟩ := d
  cases (show u = Value.ref a from rx)
  cases (show v = Value.ref c from ry)
  obtain ⟨us, r, e, z⟩ := I.tuple ha
  obtain ⟨vs, r2, e2, z2⟩ := I.tuple hc
  have s1 : us.toArray.size = xs.length := by rw [List.size_toArray, ← r.length]
  have s2 : vs.toArray.size = ys.length := by rw [List.size_toArray, ← r2.length]
  obtain ⟨⟨cls, dd, data, sl⟩, ho, hc1, k1, hd1⟩ := id e
  obtain ⟨⟨cls2, dd2, data2, sl2⟩, ho2, hc2, k2, hd2⟩ := id e2
  dsimp only at hc1 hd1 hc2 hd2
  subst hc1 hd1 hc2 hd2
  refine wpAny_richCompare_same_room (op := .Eq) ⟨_, ho, rfl⟩ ⟨_, ho2, rfl⟩ F.slot_tuple_eq (GQ.call_here F.slot_tuple_eq ⟨_, ho, rfl⟩ F.entry_tuple_eq (F.args_tuple_eq_2 _ _) ?_) sb.room.units0
  refine PySem.GE.tup_eqB (es := es) (J := LoopB X pins σ H es) (F := LoopI X pins σ H) (fun i h1 h2 s' q => one_turn hD h sb p r r2 i h1 h2 s' q) (fun _ _ q => q.1) (fun s' q => ⟨(fun z => nomatch z), ?_⟩) ho ho2 ⟨⟨H, I, fun _ _ e => e⟩, fun j hj => absurd hj (Nat.not_lt_zero _)⟩
  rw [s1, s2]
  exact ⟨rfl, q⟩
theorem rcN_tup (hD : MonB D) (h : EqB X n D) : RcB X (n + 1) .NotEq not (TupB X.K D) := by
  intro A pins s σ H x y u v b sb I rx ry d
  obtain ⟨a, c, xs, ys, es, rfl, rfl, ha, hc, p, rfl⟩ := d
  cases (show u = Value.ref a from rx)
  cases (show v = Value.ref c from ry)
  obtain ⟨us, r, e, z⟩ := I.tuple ha
  obtain ⟨vs, r2, e2, z2⟩ := I.tuple hc
  have s1 : us.toArray.size = xs.length := by rw [List.size_toArray, ← r.length]
  have s2 : vs.toArray.size = ys.length := by rw [List.size_toArray, ← r2.length]
  obtain ⟨⟨cls, dd, data, sl⟩, ho, hc1, k1, hd1⟩ := id e
  obtain ⟨⟨cls2, dd2, data2, sl2⟩, ho2, hc2, k2, hd2⟩ := id e2
  dsimp only at hc1 hd1 hc2 hd2
  subst hc1 hd1 hc2 hd2
  refine wpAny_richCompare_same_room (op := .NotEq) ⟨_, ho, rfl⟩ ⟨_, ho2, rfl⟩ F.slot_tuple_ne (GQ.call_here F.slot_tuple_ne ⟨_, ho, rfl⟩ F.entry_tuple_ne (F.args_tuple_ne_2 _ _) ?_) sb.room.units0
  refine PySem.GE.tup_neB (es := es) (J := LoopB X pins σ H es) (F := LoopI X pins σ H) (fun i h1 h2 s' q => one_turn hD h sb p r r2 i h1 h2 s' q) (fun _ _ q => q.1) (fun s' q => ⟨(fun z => nomatch z), ?_⟩) ho ho2 ⟨⟨H, I, fun _ _ e => e⟩, fun j hj => absurd hj (Nat.not_lt_zero _)⟩
  rw [s1, s2]
  exact ⟨rfl, q⟩
/-- tuples in tuples -/
def TupS (K : PySem.W.Frag) (D : DB) : DB := fun x y b H => TupB K D x y b H ∧ (x = y → b = true)
theorem eqB_tup (hD : MonB D) (h : EqB X n D) : EqB X (n + 1) (TupS X.K D) := by
  have r : RcB X (n + 1) .Eq id (TupS X.K D) := fun A pins s σ H x y u v b sb I rx ry d => rcB_tup hD h A pins s σ H x y u v b sb I rx ry d.1
  refine r.eqB fun x y b H d => ?_
  obtain ⟨⟨a, c, xs, ys, es, rfl, rfl, _⟩, same⟩ := d
  exact ⟨a, c, rfl, rfl, fun e => same (by rw [e])⟩
theorem monB_tup {K : PySem.W.Frag} (hD : MonB D) : MonB (TupB K D) := by
  intro x y b H H' k d
  obtain ⟨a, c, xs, ys, es, e1, e2, ha, hc, p, e⟩ := d
  exact ⟨a, c, xs, ys, es, e1, e2, ha.ext k, hc.ext k, p.same hD k, e⟩
theorem monB_tupS {K : PySem.W.Frag} (hD : MonB D) : MonB (TupS K D) := fun x y b H H' k d => ⟨monB_tup hD x y b H H' k d.1, d.2⟩
/-- lists of one length, tracked -/
def LstB (D : DB) : DB := fun x y b H => ∃ a c xs ys es, x = .ref a ∧ y = .ref c ∧ H a = some (.lst xs) ∧ H c = some (.lst ys) ∧ xs.length = ys.length ∧ ItemsB D xs ys es H ∧ b = PySem.GE.allB xs.length xs.length es 0
theorem lst_turns (hD : MonB D) (h : EqB X n D) {A : Around} (sb : Sub X (n + 1) A) {pins : List (Addr × Obj)} {σ : L2.St} {H : Hp} {a c : Addr} {xs ys : List V} {es : Nat → Bool} (ha : H a = some (.lst xs)) (hc : H c = some (.lst ys)) (hl : xs.length = ys.length) (p : ItemsB D xs ys es H) :
    PySem.GE.LTurns X.prog X.w A X.xe a c xs.length es (LoopB X pins σ H es) (LoopI X pins σ H) := by
  intro i s' q
  obtain ⟨⟨H1, I1, k1⟩, _⟩ := id q
  obtain ⟨z, us, k, r, e⟩ := I1.hok a _ (k1 _ _ ha)
  obtain ⟨z2, vs, k2, r2, e2⟩ := I1.hok c _ (k1 _ _ hc)
  refine ⟨us.toArray, vs.toArray, k, k2, e, e2, ?_, ?_, fun h1 h2 => one_turn hD h sb p r r2 i h1 h2 s' q⟩
  · rw [List.size_toArray, ← r.length]
  · rw [List.size_toArray, ← r2.length, hl]
theorem lst_read {pins : List (Addr × Obj)} {σ : L2.St} {H : Hp} {a c : Addr} {xs ys : List V} (ha : H a = some (.lst xs)) (hc : H c = some (.lst ys)) (hl : xs.length = ys.length) : PySem.GE.LRead a c xs.length (LoopI X pins σ H) := by
  intro s' q
  obtain ⟨H1, I1, k1⟩ := q
  obtain ⟨z, us, k, r, e⟩ := I1.hok a _ (k1 _ _ ha)
  obtain ⟨z2, vs, k2, r2, e2⟩ := I1.hok c _ (k1 _ _ hc)
  refine ⟨us.toArray, vs.toArray, k, k2, e, e2, ?_, ?_⟩
  · rw [List.size_toArray, ← r.length]
  · rw [List.size_toArray, ← r2.length, hl]
theorem rcB_lst (hD : MonB D) (h : EqB X n D) : RcB X (n + 1) .Eq id (LstB D) := by
  intro A pins s σ H x y u v b sb I rx ry d
  obtain ⟨a, c, xs, ys, es, rfl, rfl, ha, hc, hl, p, rfl⟩ := d
  cases (show u = Value.ref a from rx)
  cases (show v = Value.ref c from ry)
  obtain ⟨z, us, k, r, e⟩ := I.hok a _ ha
  obtain ⟨z2, vs, k2, r2, e2⟩ := I.hok c _ hc
  refine wpAny_richCompare_same_room (op := .Eq) ⟨_, e, rfl⟩ ⟨_, e2, rfl⟩ F.slot_list_eq (GQ.call_here F.slot_list_eq ⟨_, e, rfl⟩ F.entry_list_eq (F.args_list_eq_2 _ _) ?_) sb.room.units0
  exact PySem.GE.lst_eqB (lst_turns hD h sb ha hc hl p) (lst_read ha hc hl) (fun _ _ q => q.1) (fun s' q => ⟨(fun z => nomatch z), rfl, q⟩) rfl ⟨⟨H, I, fun _ _ e => e⟩, fun j hj => absurd hj (Nat.not_lt_zero _)⟩
theorem rcN_lst (hD : MonB D) (h : EqB X n D) : RcB X (n + 1) .NotEq not (LstB D) := by
  intro A pins s σ H x y u v b sb I rx ry d
  obtain ⟨a, c, xs, ys, es, rfl, rfl, ha, hc, hl, p, rfl⟩ := d
  cases (show u = Value.ref a from rx)
  cases (show v = Value.ref c from ry)
  obtain ⟨z, us, k, r, e⟩ := I.hok a _ ha
  obtain ⟨z2, vs, k2, r2, e2⟩ := I.hok c _ hc
  refine wpAny_richCompare_same_room (op := .NotEq) ⟨_, e, rfl⟩ ⟨_, e2, rfl⟩ F.slot_list_ne (GQ.call_here F.slot_list_ne ⟨_, e, rfl⟩ F.entry_list_ne (F.args_list_ne_2 _ _) ?_) sb.room.units0
  exact PySem.GE.lst_neB (lst_turns hD h sb ha hc hl p) (lst_read ha hc hl) (fun _ _ q => q.1) (fun s' q => ⟨(fun z => nomatch z), rfl, q⟩) rfl ⟨⟨H, I, fun _ _ e => e⟩, fun j hj => absurd hj (Nat.not_lt_zero _)⟩
/-! ### as operators -/
def rCmpB (g : Bool → Bool) (D : DB) : R2 := fun x y H Q => ∃ b, D x y b H ∧ ∀ H', Same H H' → Q (.bl (g b)) H'
theorem op_rc {op : CmpOp} {g : Bool → Bool} (hc : ∀ u v : Value, compareOp op u v = richCompare op u v) (h : RcB X n op g D) (hr : Room n X.A) : OpR X (compareOp op) (rCmpB g D) := by
  intro pins s σ H x y v u Q I rx ry hq
  obtain ⟨b, d, q⟩ := hq
  rw [hc]
  refine wpAny_mono (h X.A pins s σ H x y v u b ⟨hr, rfl⟩ I rx ry d) (fun r s' z => ?_) fun _ _ z => z
  obtain ⟨rfl, H', I', k⟩ := z
  exact ⟨.bl (g b), H', I', rfl, q H' k⟩
theorem op_eqT (hD : MonB D) (h : EqB X n D) (hr : Room (n + 1) X.A) : OpR X (compareOp .Eq) (rCmpB id (TupB X.K D)) := op_rc (fun _ _ => rfl) (rcB_tup hD h) hr
theorem op_neT (hD : MonB D) (h : EqB X n D) (hr : Room (n + 1) X.A) : OpR X (compareOp .NotEq) (rCmpB not (TupB X.K D)) := op_rc (fun _ _ => rfl) (rcN_tup hD h) hr
theorem op_eqL (hD : MonB D) (h : EqB X n D) (hr : Room (n + 1) X.A) : OpR X (compareOp .Eq) (rCmpB id (LstB D)) := op_rc (fun _ _ => rfl) (rcB_lst hD h) hr
theorem op_neL (hD : MonB D) (h : EqB X n D) (hr : Room (n + 1) X.A) : OpR X (compareOp .NotEq) (rCmpB not (LstB D)) := op_rc (fun _ _ => rfl) (rcN_lst hD h) hr
end
end GL
set_option maxHeartbeats 1000000
/-! o.f as a target among others; the heap without one thing. -/
namespace GL
open PySem PySem.Spec PyProof.Rows L2
def gFld (K : PySem.W.Frag) (to : TE) (f : Str) : TG := fun y σ H Q => to σ H fun x H2 => ∃ a C dx fs, x = .ref a ∧ H2 a = some (.ins C dx fs) ∧ Cls K C ∧ NoAttr K C f ∧ fs.length < 1000 ∧ Q σ (upd H2 a (.ins C dx (putF f y fs)))
theorem pg_fld {X : Cx} {o : Expr} {to : TE} {f : Str} {pos : Pos} (ho : PE X o to) : PG X (.Attribute o f pos) (gFld X.K to f) := by
  constructor
  intro pins s σ H y u Q I ry h
  refine PySem.W.kas_attr (thn (ho.run pins s σ H _ I h) ?_)
  rintro ov s2 ⟨x, H2, I2, rx, a, C, dx, fs, rfl, ea, c, n, l, q⟩
  cases (show ov = Value.ref a from rx)
  exact setattr_ok I2 ea c n l ry fun s3 I3 => ⟨σ, _, I3, q⟩
/-- all but the thing at w -/
def off (H : Hp) (w : Addr) : Hp := fun a => if a = w then none else H a
theorem off_ne {H : Hp} {w a : Addr} (h : a ≠ w) : off H w a = H a := if_neg h
theorem off_at {H : Hp} {w : Addr} : off H w w = none := if_pos rfl
theorem off_some {H : Hp} {w a : Addr} {o : HO} (h : off H w a = some o) : a ≠ w ∧ H a = some o := by
  by_cases e : a = w
  · rw [e, off_at] at h
    cases h
  · rw [off_ne e] at h
    exact ⟨e, h⟩
theorem off_same {H H' : Hp} {w : Addr} (k : Same (off H w) H') : Same (off H w) (off H' w) := fun a o e => by
  rw [off_ne (off_some e).1]
  exact k a o e
theorem off_upd {H H' : Hp} {w : Addr} {o : HO} (k : Same (off H w) H') : Same (off H w) (upd H' w o) := fun a u e => by
  rw [upd_ne (off_some e).1]
  exact k a u e
theorem off_of {H : Hp} {w a : Addr} {o u : HO} (e : H w = some o) (h : H a = some u) (ne : u ≠ o) : off H w a = some u := by
  rw [off_ne]
  · exact h
  · rintro rfl
    rw [e] at h
    exact ne (Option.some.inj h).symm
theorem off_le {H : Hp} {w : Addr} : Same (off H w) H := fun a o e => (off_some e).2
/-- x(e, ..), x a local that holds a class of the program -/
def tMakeL (i : Nat) (C : Addr) (sp : Sp) (dvs : List V) (E : XK) (t : TA) : TE := fun σ H Q => σ[i]? = some (some (.ref C)) ∧ tMake C sp dvs E t σ H Q
theorem pe_makeL {X : Cx} {CX : CXT} {k i : Nat} {f C : Addr} {fd : FuncData} {ps : List Str} {sp : Sp} {dvs : List V} {ds : List Value} {E : XK} {x : Str} {p pos : Pos} {e : Expr} {es : List Expr} {t : TA} (M : Mk X.K C f) (F : FnOk X.prog X.w X.K X.mg X.base CX k f fd ps sp) (hr : Room (k + 1) X.A)
    (hN : X.N[i]? = some x) (hv : Vis X.env.scope x) (hb : Binds X.K fd ps ds) (hd : Vals dvs ds) (hx : Passes CX X E) (ha : PA X (e :: es) t) (h1 : (x == ("__debug__" : Str)) = false := by decide) (h2 : (x == ("__classdict__" : Str)) = false := by decide)
    (h3 : starEach (e :: es) X.env = (false, eval e X.env) :: starEach es X.env := by rfl) (h4 : (backTo pos (starEach es X.env)).any (·.1) = false := by rfl) : PE X (.Call (.Name x p) (e :: es) [] pos) (tMakeL i C sp dvs E t) := by
  constructor
  intro pins s σ H Q I h
  obtain ⟨at_, h⟩ := h
  apply wpAny_Call_Name_kw
  have name := (pe_var (X := X) (pos := p) hN hv h1 h2).run pins s σ H (fun v H1 => v = .ref C ∧ H1 = H) I ⟨.ref C, at_, rfl, rfl⟩
  refine thn name ?_
  rintro u s1 ⟨v, H1, I1, r1, rfl, rfl⟩
  cases (show u = Value.ref C from r1)
  refine PySem.W.callWith_K (h₀ := X.base) I.ok.mod.kin M.kp (thn (ha.run pos pins s1 σ _ _ I1 h) ?_) h3 h4
  rintro us s2 ⟨vs, H2, I2, r, q⟩
  exact ⟨I2.kIn, run_make M F hr hb hd hx I2 r q⟩
end GL
set_option maxHeartbeats 4000000
/-! x is True; heaps whose tables of code objects grow. -/
namespace GL
open PySem PySem.Spec PyProof.Rows L2
theorem op_isB {X : Cx} : OpR X (compareOp .Is) (fun x y H Q => ∃ a b, x = .bl a ∧ y = .bl b ∧ Q (.bl (a == b)) H) := by
  intro pins s z H x y v u Q I rx ry h
  obtain ⟨a, b, rfl, rfl, q⟩ := h
  cases rx
  cases ry
  cases a <;> cases b <;> exact wpAny_pure (fin_bl I q rfl)
/-- what is not a table -/
def noT (H : Hp) : Hp := fun b => match H b with
  | some (.tbl _) => none
  | o => o
section
variable {H H' : Hp} {b : Addr} {o : HO}
theorem noT_some (e : noT H b = some o) : H b = some o ∧ ∀ ps, o ≠ .tbl ps := by
  unfold noT at e
  split at e
  · cases e
  · rename_i n
    exact ⟨e, fun ps z => n ps (by rw [e, z])⟩
theorem noT_at (e : H b = some o) (n : ∀ ps, o ≠ .tbl ps) : noT H b = some o := by
  unfold noT
  split
  · rename_i z
    rw [e] at z
    cases z
    exact absurd rfl (n _)
  · exact e
theorem extN_same (k : LamX.ExtN H H') : Same (noT H) H' := fun b o e => k b o (noT_some e).1 (noT_some e).2
theorem same_extN (k : Same H H') : LamX.ExtN H H' := fun b o e _ => k b o e
theorem Tabs.same {T : List (Addr × Str)} (t : LamX.Tabs T H) (k : Same H H') : LamX.Tabs T H' := t.ext k
theorem codeO_lst {c : Addr} {q : Str} {xs : List V} : LamX.CodeO c q ≠ .lst xs := fun z => by
  unfold LamX.CodeO at z
  cases z
theorem Tabs.offP {T : List (Addr × Str)} {p : Addr} {xs : List V} (t : LamX.Tabs T H) (e : H p = some (.lst xs)) : LamX.Tabs T (off H p) := fun x hx => by
  obtain ⟨ps, h1, h2, h3⟩ := t x hx
  refine ⟨ps, ?_, h2, fun pos cv hc => ?_⟩
  · rw [off_ne (fun z => by rw [z, e] at h1; cases h1)]
    exact h1
  · obtain ⟨c, e1, e2⟩ := h3 pos cv hc
    refine ⟨c, e1, ?_⟩
    rw [off_ne (fun z => by rw [z, e] at e2; exact codeO_lst (Option.some.inj e2).symm)]
    exact e2
end
end GL
set_option maxHeartbeats 4000000
/-! A law one of whose defs makes lambdas: the table of its code object, in the hook and at the end. -/
namespace GL
open PySem PySem.Spec PyProof.Rows L2
/-- a table in which nothing is yet -/
def isTab (o : Obj) : Bool := match o with
  | ⟨.none, none, .fields vs, sl⟩ => vs.isEmpty && sl.isEmpty
  | _ => false
theorem isTab_eq {o : Obj} (h : isTab o = true) : o = { cls := .none, data := .fields #[] } := by
  unfold isTab at h
  split at h
  · rename_i vs sl
    obtain ⟨h1, h2⟩ := He.ba h
    rw [Array.isEmpty_iff.mp h1, Array.isEmpty_iff.mp h2]
  · cases h
def codeAt (K : PySem.W.Frag) (f : Addr) : Addr := match K.lookup f with
  | some ⟨_, _, .func fd, _⟩ => (match fd.code with | .ref c => c | _ => 0)
  | _ => 0
def tabAt (K : PySem.W.Frag) (c : Addr) : Addr := match K.lookup c with
  | some ⟨_, _, .fields vs, _⟩ => (match (vs[11]? : Option Value) with | some (.ref p) => p | _ => 0)
  | _ => 0
def codeB (K : PySem.W.Frag) (f : Addr) : Bool := (match K.lookup f with
  | some ⟨_, _, .func fd, _⟩ => (match fd.code with | .ref _ => true | _ => false)
  | _ => false) && ((match K.lookup (codeAt K f) with
  | some ⟨.type "code", _, .fields vs, _⟩ => (match (vs[11]? : Option Value) with | some (.ref _) => true | _ => false) && ((match vs.getD 18 .none with | .str _ _ => true | _ => false) && ((match vs.getD 7 .none with | .int _ _ => true | _ => false) &&
      ((match vs.getD 9 .none with | .bool _ => true | _ => false) && (match vs.getD 10 .none with | .int _ _ => true | _ => false))))
  | _ => false) && (!(codeAt K f == tabAt K (codeAt K f)) && (K.lookup (tabAt K (codeAt K f))).isNone))
theorem codeB_ok {K : PySem.W.Frag} {h : Heap} {f : Addr} (KX : K.In h) (b : codeB K f = true) : PySem.W.CodeHd h (codeAt K f) (tabAt K (codeAt K f)) ∧ K.lookup (tabAt K (codeAt K f)) = none ∧
    ∀ oc od fd osl, K.lookup f = some ⟨oc, od, .func fd, osl⟩ → fd.code = .ref (codeAt K f) := by
  obtain ⟨b1, b2⟩ := He.ba b
  obtain ⟨b2, b3⟩ := He.ba b2
  obtain ⟨b3, b4⟩ := He.ba b3
  refine ⟨?_, by simpa using b4, fun oc od fd osl e => ?_⟩
  · have ne : codeAt K f ≠ tabAt K (codeAt K f) := by simpa using b3
    generalize hc : codeAt K f = c at *
    unfold tabAt at ne ⊢
    split at b2
    · rename_i dd vs sl e
      rw [e] at ne ⊢
      dsimp only at ne ⊢
      obtain ⟨c1, c2⟩ := He.ba b2
      obtain ⟨c2, c3⟩ := He.ba c2
      obtain ⟨c3, c4⟩ := He.ba c3
      obtain ⟨c4, c5⟩ := He.ba c4
      split at c1
      · rename_i p ep
        try rw [ep] at ne
        dsimp only at ne
        split at c2
        · rename_i x1 x2 e1
          split at c3
          · rename_i y1 y2 e2
            split at c4
            · rename_i z1 e3
              split at c5
              · rename_i w1 w2 e4
                exact ⟨_, vs, x1, x2, y1, y2, z1, w1, w2, KX _ _ e, rfl, rfl, ep, by rw [Array.getD_eq_getD_getElem?, ep]; rfl, e1, e2, e3, e4, ne⟩
              · cases c5
            · cases c4
          · cases c3
        · cases c2
      · cases c1
    · cases b2
  · unfold codeAt
    rw [e] at b1 ⊢
    dsimp only at b1 ⊢
    split at b1
    · rename_i c ec
      rw [ec]
    · cases b1
/-- as kOfT, without the tables -/
def kOfC (n : Nat) (g : Addr → Option Obj) : PySem.W.Frag := He.frG g ((cStatics :: sysModules :: lvls g n [mainGlobals]).filter fun a => match g a with | some o => !isTab o | none => true)
def tabF (n : Nat) (fr : PySem.W.Frag → Addr) (g : Addr → Option Obj) : PySem.W.Frag := He.frG g [tabAt (kOfC n g) (codeAt (kOfC n g) (fr (kOfC n g)))]
def tabB (K T : PySem.W.Frag) (f : Addr) : Bool := codeB K f && (match T.lookup (tabAt K (codeAt K f)) with | some o => isTab o | none => false)
def obsC (n : Nat) (fa : List He.Fa) (fn : List He.DefD) (fx : List DefX) (ex : PySem.W.Frag → Bool) (fr : PySem.W.Frag → Addr) (g : Addr → Option Obj) : AlZ :=
  (He.obsD fa fn (kOfC n g), (fx.map (fnX (kOfC n g)), fx.all (okX (kOfC n g)) && (ex (kOfC n g) && tabB (kOfC n g) (tabF n fr g) (fr (kOfC n g)))))
def hookC (n : Nat) (fa : List He.Fa) (fn : List He.DefD) (fx : List DefX) (ex : PySem.W.Frag → Bool) (fr : PySem.W.Frag → Addr) : PySem.W.Hook where
  α := AlZ
  obs := fun s => obsC n fa fn fx ex fr s.heap.get?
  val := fun _ => (He.valD fn, (fx.map (fun x : DefX => x.d.val), true))
  says := fun _ h => ∃ K T : PySem.W.Frag, K.In h ∧ T.In h ∧ He.SaysD fa fn K ∧ SaysX fx K ∧ ex K = true ∧ tabB K T (fr K) = true
  of := fun _ s e => by
    have e1 := congrArg (fun z : AlZ => z.1) e
    have e2 := congrArg (fun z : AlZ => z.2.1) e
    have e3 := congrArg (fun z : AlZ => z.2.2) e
    obtain ⟨f1, f2⟩ := He.ba (show (fx.all (okX (kOfC n s.heap.get?)) && (ex (kOfC n s.heap.get?) && tabB (kOfC n s.heap.get?) (tabF n fr s.heap.get?) (fr (kOfC n s.heap.get?)))) = true from e3)
    obtain ⟨f2, f3⟩ := He.ba f2
    exact ⟨kOfC n s.heap.get?, tabF n fr s.heap.get?, He.frG_in, He.frG_in, e1, ⟨e2, f1⟩, f2, f3⟩
  keeps := fun _ _ _ ⟨K, T, hK, hT, c⟩ k => ⟨K, T, PySem.W.Frag.In.keeps hK k, PySem.W.Frag.In.keeps hT k, c⟩
theorem obsC_eq {n : Nat} {fa : List He.Fa} {fn : List He.DefD} {fx : List DefX} {ex : PySem.W.Frag → Bool} {fr : PySem.W.Frag → Addr} {g : Addr → Option Obj} {s : Shared} (h : ∀ a, g a = s.heap.get? a) : obsC n fa fn fx ex fr g = (hookC n fa fn fx ex fr).obs s := by
  have e : g = s.heap.get? := funext h
  rw [e]
  rfl
section
open HandSHeadRun
theorem run_partsC {r : PySem.W.OpenRow} {q : Program} {n : Nat} {fa : List He.Fa} {fn : List He.DefD} {fx : List DefX} {ex : PySem.W.Frag → Bool} {fr : PySem.W.Frag → Addr} {M : Nat} {loose : List PySem.Str} {w : World}
    (h1 : (wholeF (fun p => stepQ (denQ tabQ) p w) fenceQ M r.prog).map (fun x => (looksF r.prog x.1.heap x.2.abs, seenQ q loose (importedModules r.prog.main.body) (fun s => PySem.W.xlAt q [] s && PySem.W.recOk r.toRowW.records s) x.2.abs)) = some (true, PySem.W.openGood q loose))
    (h2 : (wholeF (fun p => stepQ (denQ tabQ) p w) fenceQ M r.prog).map (fun x => He.obsD fa fn (kOfC n (getT x.2))) = some (He.valD fn))
    (h3 : (wholeF (fun p => stepQ (denQ tabQ) p w) fenceQ M r.prog).map (fun x => (fx.map (fnX (kOfC n (getT x.2))), fx.all (okX (kOfC n (getT x.2))) && (ex (kOfC n (getT x.2)) && tabB (kOfC n (getT x.2)) (tabF n fr (getT x.2)) (fr (kOfC n (getT x.2)))))) = some (fx.map (fun x : DefX => x.d.val), true)) :
    RunEqI r q (hookC n fa fn fx ex fr) (fun s => obsC n fa fn fx ex fr (getT s)) M loose w := by
  unfold RunEqI
  cases e : wholeF (fun p => stepQ (denQ tabQ) p w) fenceQ M r.prog with
  | none =>
    rw [e] at h1
    cases h1
  | some x =>
    rw [e] at h1 h2 h3
    have a1 := Option.some.inj h1
    have a2 := Option.some.inj h2
    have a3 := Option.some.inj h3
    obtain ⟨b1, b2⟩ := Prod.mk.inj a1
    refine congrArg some (Prod.ext b1 (Prod.ext b2 ?_))
    exact Prod.ext a2 a3
end
end GL
set_option maxHeartbeats 4000000
/-! As GB, several defs that make lambdas: a table for each. -/
namespace GL
open PySem PySem.Spec PyProof.Rows L2
def tabF2 (n : Nat) (fr : PySem.W.Frag → List Addr) (g : Addr → Option Obj) : PySem.W.Frag := He.frG g ((fr (kOfC n g)).map fun f => tabAt (kOfC n g) (codeAt (kOfC n g) f))
def tabB2 (K T : PySem.W.Frag) (fs : List Addr) : Bool := fs.all fun f => tabB K T f
def obsC2 (n : Nat) (fa : List He.Fa) (fn : List He.DefD) (fx : List DefX) (ex : PySem.W.Frag → Bool) (fr : PySem.W.Frag → List Addr) (g : Addr → Option Obj) : AlZ :=
  (He.obsD fa fn (kOfC n g), (fx.map (fnX (kOfC n g)), fx.all (okX (kOfC n g)) && (ex (kOfC n g) && tabB2 (kOfC n g) (tabF2 n fr g) (fr (kOfC n g)))))
def hookC2 (n : Nat) (fa : List He.Fa) (fn : List He.DefD) (fx : List DefX) (ex : PySem.W.Frag → Bool) (fr : PySem.W.Frag → List Addr) : PySem.W.Hook where
  α := AlZ
  obs := fun s => obsC2 n fa fn fx ex fr s.heap.get?
  val := fun _ => (He.valD fn, (fx.map (fun x : DefX => x.d.val), true))
  says := fun _ h => ∃ K T : PySem.W.Frag, K.In h ∧ T.In h ∧ He.SaysD fa fn K ∧ SaysX fx K ∧ ex K = true ∧ tabB2 K T (fr K) = true
  of := fun _ s e => by
    have e1 := congrArg (fun z : AlZ => z.1) e
    have e2 := congrArg (fun z : AlZ => z.2.1) e
    have e3 := congrArg (fun z : AlZ => z.2.2) e
    obtain ⟨f1, f2⟩ := He.ba (show (fx.all (okX (kOfC n s.heap.get?)) && (ex (kOfC n s.heap.get?) && tabB2 (kOfC n s.heap.get?) (tabF2 n fr s.heap.get?) (fr (kOfC n s.heap.get?)))) = true from e3)
    obtain ⟨f2, f3⟩ := He.ba f2
    exact ⟨kOfC n s.heap.get?, tabF2 n fr s.heap.get?, He.frG_in, He.frG_in, e1, ⟨e2, f1⟩, f2, f3⟩
  keeps := fun _ _ _ ⟨K, T, hK, hT, c⟩ k => ⟨K, T, PySem.W.Frag.In.keeps hK k, PySem.W.Frag.In.keeps hT k, c⟩
theorem obsC2_eq {n : Nat} {fa : List He.Fa} {fn : List He.DefD} {fx : List DefX} {ex : PySem.W.Frag → Bool} {fr : PySem.W.Frag → List Addr} {g : Addr → Option Obj} {s : Shared} (h : ∀ a, g a = s.heap.get? a) : obsC2 n fa fn fx ex fr g = (hookC2 n fa fn fx ex fr).obs s := by
  have e : g = s.heap.get? := funext h
  rw [e]
  rfl
section
open HandSHeadRun
theorem run_partsC2 {r : PySem.W.OpenRow} {q : Program} {n : Nat} {fa : List He.Fa} {fn : List He.DefD} {fx : List DefX} {ex : PySem.W.Frag → Bool} {fr : PySem.W.Frag → List Addr} {M : Nat} {loose : List PySem.Str} {w : World}
    (h1 : (wholeF (fun p => stepQ (denQ tabQ) p w) fenceQ M r.prog).map (fun x => (looksF r.prog x.1.heap x.2.abs, seenQ q loose (importedModules r.prog.main.body) (fun s => PySem.W.xlAt q [] s && PySem.W.recOk r.toRowW.records s) x.2.abs)) = some (true, PySem.W.openGood q loose))
    (h2 : (wholeF (fun p => stepQ (denQ tabQ) p w) fenceQ M r.prog).map (fun x => He.obsD fa fn (kOfC n (getT x.2))) = some (He.valD fn))
    (h3 : (wholeF (fun p => stepQ (denQ tabQ) p w) fenceQ M r.prog).map (fun x => (fx.map (fnX (kOfC n (getT x.2))), fx.all (okX (kOfC n (getT x.2))) && (ex (kOfC n (getT x.2)) && tabB2 (kOfC n (getT x.2)) (tabF2 n fr (getT x.2)) (fr (kOfC n (getT x.2)))))) = some (fx.map (fun x : DefX => x.d.val), true)) :
    RunEqI r q (hookC2 n fa fn fx ex fr) (fun s => obsC2 n fa fn fx ex fr (getT s)) M loose w := by
  unfold RunEqI
  cases e : wholeF (fun p => stepQ (denQ tabQ) p w) fenceQ M r.prog with
  | none =>
    rw [e] at h1
    cases h1
  | some x =>
    rw [e] at h1 h2 h3
    have a1 := Option.some.inj h1
    have a2 := Option.some.inj h2
    have a3 := Option.some.inj h3
    obtain ⟨b1, b2⟩ := Prod.mk.inj a1
    refine congrArg some (Prod.ext b1 (Prod.ext b2 ?_))
    exact Prod.ext a2 a3
end
end GL
set_option maxHeartbeats 4000000
/-! The end of a law whose promise asks the units' guards and a table of lambdas. -/
namespace GL
open PySem PySem.Spec PyProof.Rows L2
theorem law_callT2 {P : Program} {w : World} {K : PySem.W.Frag} {mg mb : Str → Option Value} {k : Nat} {fa a : Addr} {L : List (Addr × Addr)} {fd : FuncData} {x : Str} {sp : Sp} {s₁ : Shared} {vs : List Value} {ns : List Int}
    (KX : K.In s₁.heap) (hns : s₁.heap.Ns mainGlobals mg) (hb : s₁.heap.Ns builtinsNs mb) (hbb : ∀ x : Str, x ≠ "__name__" → mb x = bootBuiltins x) (hlim : s₁.heap.NoLimit) (hg : s₁.gens = #[])
    (tab : ∀ tb ∈ L.map Prod.snd, s₁.heap.get? tb = some { cls := .none, data := .fields #[] }) (noK : ∀ tb ∈ L.map Prod.snd, K.lookup tb = none) (code : ∀ x ∈ L, PySem.W.CodeHd s₁.heap x.1 x.2)
    (hbm : ∃ (bm : Addr) (ob : Obj), mg "__builtins__" = some (.ref bm) ∧ bm ≠ builtinsNs ∧ s₁.heap.get? bm = some ob ∧ ob.cls = .type "module" ∧ ob.dict = some builtinsNs ∧ ob.data = .plain)
    (ha : s₁.heap.get? a = some { cls := .type "list", data := .seq vs.toArray }) (hi : IntsAre vs ns) (hl : ns.length ≤ sizeLine) (hr : Room k callerA)
    (F : ∀ base : Heap, K.In base → base.Ns mainGlobals mg → (∀ x ∈ L, LamX.TabB base mg x.1 x.2) → FnG P w K mg base CX0 k fa fd [x] sp) (hbind : ∀ (s : Shared) (u : Value), BindsTo s fd ⟨[u], []⟩ [(x, u)])
    (hsp : ∀ H : Hp, (∀ tb ∈ L.map Prod.snd, H tb = some (.tbl #[])) → SqL K H a (ns.map V.int) → sp [.ref a] H (fun v _ => v = .bl true) E0) :
    codeAny (model P w) callerA (.call (.ref fa) ⟨[.ref a], []⟩) (fun r s' => r = .ok (.ret (.bool true)) ∧ OldK s₁.heap s'.heap ∧ s'.os = s₁.os ∧ AllBare s'.gens) s₁ := by
  have rv := vals_ints hi
  have atb : a ∉ L.map Prod.snd := fun z => by
    rw [tab _ z] at ha
    cases ha
  have main : ∀ H : Hp, (∀ tb ∈ L.map Prod.snd, H tb = some (.tbl #[])) → (∀ b u, b ∉ L.map Prod.snd → H b = some u → b = a ∧ K.lookup a = none ∧ ∃ o xs, u = .frz o (.lst xs)) → SqL K H a (ns.map V.int) → HOk P w H s₁.heap →
      codeAny (model P w) callerA (.call (.ref fa) ⟨[.ref a], []⟩) (fun r s' => r = .ok (.ret (.bool true)) ∧ OldK s₁.heap s'.heap ∧ s'.os = s₁.os ∧ AllBare s'.gens) s₁ := by
    intro H ht ours sq hok
    have stays : ∀ {b : Addr} {o : Obj}, s₁.heap.get? b = some o → H b = none → (hidT s₁.heap H).get? b = some o := fun e n => hidT_get e n
    -- what is neither the script nor the table isn't tracked
    have free : ∀ {b : Addr} {o : Obj}, s₁.heap.get? b = some o → (∀ us n, o.data ≠ .seq us n) → o.data ≠ .fields #[] → H b = none := by
      intro b o e n1 n2
      cases q : H b with
      | none => rfl
      | some u =>
        by_cases hb : b ∈ L.map Prod.snd
        · rw [tab _ hb] at e
          cases e
          exact absurd rfl n2
        · cases (ours b u hb q).1
          rw [ha] at e
          cases e
          exact absurd rfl (n1 _ _)
    have spaces : ∀ {b : Addr} {m : Str → Option Value}, s₁.heap.Ns b m → (hidT s₁.heap H).Ns b m := fun {b m} ⟨o, es, ep, e, d, r⟩ => ⟨o, es, ep, stays e (free e (fun us n z => by rw [d] at z; cases z) fun z => by rw [d] at z; cases z), d, r⟩
    have kin : K.In (hidT s₁.heap H) := by
      intro b o e
      refine stays (KX b o e) ?_
      cases q : H b with
      | none => rfl
      | some u =>
        by_cases hb : b ∈ L.map Prod.snd
        · rw [noK _ hb] at e
          cases e
        · obtain ⟨rfl, z, _⟩ := ours b u hb q
          rw [z] at e
          cases e
    have md : Mod K mg (hidT s₁.heap H) := ⟨kin, spaces hns, ⟨mb, spaces hb, hbb⟩, let ⟨mc, h1, h2⟩ := hlim; ⟨mc, spaces h1, h2⟩⟩
    have TB : ∀ x ∈ L, LamX.TabB (hidT s₁.heap H) mg x.1 x.2 := by
      intro x hx
      have hx2 : x.2 ∈ L.map Prod.snd := List.mem_map.mpr ⟨x, hx, rfl⟩
      refine ⟨?_, ?_, fun z => ?_⟩
      · obtain ⟨o, us, file, tf, flags, tg, inF, text, tt, e1, r1, r2, r3, r⟩ := code x hx
        refine ⟨o, us, file, tf, flags, tg, inF, text, tt, stays e1 (free e1 (fun us n z => by rw [r2] at z; cases z) fun z => ?_), r1, r2, r3, r⟩
        rw [r2] at z
        cases z
        simp at r3
      · obtain ⟨bm, ob, b1, b2, b3, b4, b5, b6⟩ := hbm
        have n1 : bm ≠ mainGlobals := fun q => by
          obtain ⟨o, es, ep, e, d, _⟩ := hns
          rw [q, e] at b3
          cases b3
          rw [d] at b6
          cases b6
        have n2 : bm ≠ x.2 := fun q => by
          rw [q, tab _ hx2] at b3
          cases b3
          cases b6
        exact ⟨bm, ob, b1, b2, n1, n2, stays b3 (free b3 (fun us n z => by rw [b6] at z; cases z) fun z => by rw [b6] at z; cases z), b4, b5, b6⟩
      · obtain ⟨o, es, ep, e, d, _⟩ := hns
        rw [z, tab _ hx2] at e
        cases e
        cases d
    have nofr : ∀ b ∈ frs ([] : List Env), H b = none := fun b z => nomatch z
    have e0 : Env0 P w K mg (hidT s₁.heap H) callerA [] s₁ H := ⟨rfl, md, fun b o e => of_hidT e, Nat.le_of_eq (hidT_size _ _), trivial, nofr, hok, .of_eq hg⟩
    refine codeAny_mono ((F _ kin (spaces hns) TB).go callerA [] s₁ H ⟨[.ref a], []⟩ [.ref a] [.ref a] _ _ rfl hr e0 (hbind s₁ (.ref a)) (.cons rfl .nil) (hsp H ht sq)) ?_
    intro r s' h
    match r, h with
    | .error e, h => exact False.elim h
    | .ok .next, h => exact False.elim h
    | .ok .brk, h => exact False.elim h
    | .ok .cont, h => exact False.elim h
    | .ok (.ret u), h =>
      obtain ⟨v, H', os, bare, un, hok', r', rfl⟩ := h
      cases (show u = Value.bool true from r')
      have other : ∀ b o, b ∉ L.map Prod.snd → s₁.heap.get? b = some o → s'.heap.get? b = some o := by
        intro b o hb e
        cases q : H b with
        | none => exact un.keep b o e q (fun z => nomatch z) (fun z => nomatch z)
        | some u =>
          obtain ⟨_, _, ob, xs, rfl⟩ := ours b u hb q
          have e1 := (hok b _ q).1
          have e2 := (hok' b _ (un.frzs b ob _ q)).1
          rw [e] at e1
          cases e1
          exact e2
      have grow : ∀ tb ∈ L.map Prod.snd, ∃ more : Array Value, s'.heap.get? tb = some { cls := .none, data := .fields more } := fun tb htb => by
        obtain ⟨more, grown⟩ := un.tbls tb #[] (ht tb htb)
        have grown : s'.heap.get? tb = some { cls := .none, data := .fields (#[] ++ more) } := hok' tb _ grown
        rw [Array.empty_append] at grown
        exact ⟨more, grown⟩
      refine ⟨rfl, ⟨fun b o e => ?_, fun b o e => ?_⟩, os, bare⟩
      · by_cases hb : b ∈ L.map Prod.snd
        · rw [tab _ hb] at e
          cases e
          obtain ⟨more, grown⟩ := grow b hb
          obtain ⟨x, hx, ex⟩ := List.mem_map.mp hb
          have tx := tab _ hb
          rw [← ex] at tx
          have it := ((code x hx).tab tx).isCodeTable
          rw [ex] at it
          exact .inr (.inl ⟨it, rfl, #[], more, rfl, by rw [Array.empty_append]; exact grown⟩)
        · exact .inl (other b o hb e)
      · by_cases hb : b ∈ L.map Prod.snd
        · obtain ⟨more, grown⟩ := grow b hb
          exact ⟨_, grown⟩
        · exact ⟨o, other b o hb e⟩
  cases hk : K.lookup a with
  | some o =>
    have e := KX a o hk
    rw [ha] at e
    cases e
    refine main (fun b => if b ∈ L.map Prod.snd then some (.tbl #[]) else none) (fun _ hb => if_pos hb) (fun b u hb z => ?_) (.inr ⟨_, vs.toArray, _, hk, rfl, rfl, rfl, ?_, by simpa using rv⟩) fun b u z => ?_
    · rw [if_neg hb] at z
      cases z
    · rw [List.size_toArray, hi.length]
      exact hl
    · by_cases hb : b ∈ L.map Prod.snd
      · have z' := (if_pos hb).symm.trans z
        cases z'
        exact tab _ hb
      · have z' := (if_neg hb).symm.trans z
        cases z'
  | none =>
    refine main (fun b => if b ∈ L.map Prod.snd then some (.tbl #[]) else if b = a then some (HO.frz { cls := .type "list", data := .seq vs.toArray } (.lst (ns.map V.int))) else none) (fun _ hb => if_pos hb) (fun b u hb z => ?_) (.inl (.inr ⟨{ cls := .type "list", data := .seq vs.toArray }, ?_⟩)) fun b u z => ?_
    · have z1 := (if_neg hb).symm.trans z
      by_cases h : b = a
      · have z2 := (if_pos h).symm.trans z1
        exact ⟨h, hk, _, _, (Option.some.inj z2).symm⟩
      · have z2 := (if_neg h).symm.trans z1
        cases z2
    · exact (if_neg atb).trans (if_pos rfl)
    · by_cases hb : b ∈ L.map Prod.snd
      · have z' := (if_pos hb).symm.trans z
        cases z'
        exact tab _ hb
      · have z1 := (if_neg hb).symm.trans z
        by_cases h : b = a
        · have z2 := (if_pos h).symm.trans z1
          cases z2
          rw [h]
          exact ⟨ha, by rw [List.length_map]; exact hl, vs, _, rv, ha⟩
        · have z2 := (if_neg h).symm.trans z1
          cases z2
theorem walk_T2 {l : PySem.W.OpenLaw} {n k : Nat} {q : Program} {loose : List Str} {XP : (Str → Option Value) → Heap → Prop} {YP : World → Heap → Prop} {d : DefRec} {x : Str}
    (hn : l.most = some n) (hn2 : n ≤ sizeLine) (hdf : d.params.defaults = []) (hr : Room k callerA)
    (F : ∀ (w : World) (mg : Str → Option Value) (fa : Addr) (h : Heap), YP w h → h.Ns mainGlobals mg → mg d.name = some (.ref fa) →
      ∃ (K : PySem.W.Frag) (L : List (Addr × Addr)) (fd : FuncData) (sp : Sp), K.In h ∧ (∀ tb ∈ L.map Prod.snd, h.get? tb = some { cls := .none, data := .fields #[] }) ∧ (∀ tb ∈ L.map Prod.snd, K.lookup tb = none) ∧ (∀ x ∈ L, PySem.W.CodeHd h x.1 x.2) ∧ (∀ (s : Shared) (u : Value), BindsTo s fd ⟨[u], []⟩ [(x, u)]) ∧
        (∀ (H : Hp) (a : Addr) (ns : List Int), ns.length ≤ n → (∀ tb ∈ L.map Prod.snd, H tb = some (.tbl #[])) → SqL K H a (ns.map V.int) → sp [.ref a] H (fun v _ => v = .bl true) E0) ∧
        ∀ base : Heap, K.In base → base.Ns mainGlobals mg → (∀ x ∈ L, LamX.TabB base mg x.1 x.2) → FnG l.prog w K mg base CX0 k fa fd [x] sp) :
    PySem.W.WalkO q loose XP YP l.row.toRowW d [] (fun f vs => PySem.call f vs) := by
  apply Att.attach_callB hn hdf
  intro w s₀ s₁ mg mb fa o pm cd doc a vs ns G Y ho hd hcd hmg hobj hints hlen hbits hg
  obtain ⟨K, L, fd, sp, KX, t1, t2, t3, hb, hsp, hF⟩ := F w mg fa _ Y G.T.g hmg
  exact law_callT2 KX G.T.g G.T.b G.T.builtins G.T.nolimit hg t1 t2 t3 G.T.bmain hobj hints (Nat.le_trans hlen hn2) hr hF hb fun H ht sq => hsp H a ns hlen ht sq
end GL
set_option maxHeartbeats 4000000
/-! As GB2; K holds what keyword-only defaults name too. -/
namespace GL
open PySem PySem.Spec PyProof.Rows L2
def kwdT (g : Addr → Option Obj) (as : List Addr) : List Addr := as.flatMap fun a => match g a with
  | some o => (match o.data with
    | .func fd => He.refV fd.kwdefaults
    | _ => [])
  | none => []
def lvlsK (g : Addr → Option Obj) (n : Nat) : List Addr := (fun as => as ++ (fun ks => ks ++ nextT g ks) (kwdT g as)) (lvls g n [mainGlobals])
def kOfK (n : Nat) (g : Addr → Option Obj) : PySem.W.Frag := He.frG g ((cStatics :: sysModules :: lvlsK g n).filter fun a => match g a with | some o => !isTab o | none => true)
def tabF3 (n : Nat) (fr : PySem.W.Frag → List Addr) (g : Addr → Option Obj) : PySem.W.Frag := He.frG g ((fr (kOfK n g)).map fun f => tabAt (kOfK n g) (codeAt (kOfK n g) f))
def obsC3 (n : Nat) (fa : List He.Fa) (fn : List He.DefD) (fx : List DefX) (ex : PySem.W.Frag → Bool) (fr : PySem.W.Frag → List Addr) (g : Addr → Option Obj) : AlZ :=
  (He.obsD fa fn (kOfK n g), (fx.map (fnX (kOfK n g)), fx.all (okX (kOfK n g)) && (ex (kOfK n g) && tabB2 (kOfK n g) (tabF3 n fr g) (fr (kOfK n g)))))
def hookC3 (n : Nat) (fa : List He.Fa) (fn : List He.DefD) (fx : List DefX) (ex : PySem.W.Frag → Bool) (fr : PySem.W.Frag → List Addr) : PySem.W.Hook where
  α := AlZ
  obs := fun s => obsC3 n fa fn fx ex fr s.heap.get?
  val := fun _ => (He.valD fn, (fx.map (fun x : DefX => x.d.val), true))
  says := fun _ h => ∃ K T : PySem.W.Frag, K.In h ∧ T.In h ∧ He.SaysD fa fn K ∧ SaysX fx K ∧ ex K = true ∧ tabB2 K T (fr K) = true
  of := fun _ s e => by
    have e1 := congrArg (fun z : AlZ => z.1) e
    have e2 := congrArg (fun z : AlZ => z.2.1) e
    have e3 := congrArg (fun z : AlZ => z.2.2) e
    obtain ⟨f1, f2⟩ := He.ba (show (fx.all (okX (kOfK n s.heap.get?)) && (ex (kOfK n s.heap.get?) && tabB2 (kOfK n s.heap.get?) (tabF3 n fr s.heap.get?) (fr (kOfK n s.heap.get?)))) = true from e3)
    obtain ⟨f2, f3⟩ := He.ba f2
    exact ⟨kOfK n s.heap.get?, tabF3 n fr s.heap.get?, He.frG_in, He.frG_in, e1, ⟨e2, f1⟩, f2, f3⟩
  keeps := fun _ _ _ ⟨K, T, hK, hT, c⟩ k => ⟨K, T, PySem.W.Frag.In.keeps hK k, PySem.W.Frag.In.keeps hT k, c⟩
theorem obsC3_eq {n : Nat} {fa : List He.Fa} {fn : List He.DefD} {fx : List DefX} {ex : PySem.W.Frag → Bool} {fr : PySem.W.Frag → List Addr} {g : Addr → Option Obj} {s : Shared} (h : ∀ a, g a = s.heap.get? a) : obsC3 n fa fn fx ex fr g = (hookC3 n fa fn fx ex fr).obs s := by
  have e : g = s.heap.get? := funext h
  rw [e]
  rfl
/-- the object that a keyword-only default is -/
def kwAt (C m x : Str) (K : PySem.W.Frag) : Addr := match K.lookup (He.ma K (He.ga K C) m) with
  | some ⟨_, _, .func fd, _⟩ => (match fd.kwdefaults with
    | .ref D => (match PySem.W.nsIn K D x with
      | some (some (.ref b)) => b
      | _ => 0)
    | _ => 0)
  | _ => 0
/-- an empty tuple of the written part -/
def tup0B (K : PySem.W.Frag) (a : Addr) : Bool := match K.lookup a with
  | some ⟨.type c, _, .seq its _, _⟩ => decide (c = "tuple") && its.toList.isEmpty
  | _ => false
theorem tup0B_ok {K : PySem.W.Frag} {a : Addr} (h : tup0B K a = true) : (∀ H : Hp, TyX K H (.ref a) (.type "tuple")) ∧ ∀ H : Hp, SqT K H a [] := by
  unfold tup0B at h
  split at h
  · rename_i c dd its n sl e
    obtain ⟨h1, h2⟩ := He.ba h
    have hc : (Value.type c) = .type "tuple" := congrArg Value.type (of_decide_eq_true h1)
    have h3 : its.toList = [] := List.isEmpty_iff.mp h2
    refine ⟨fun H => .kTuple e hc, fun H => .inr ⟨_, its, n, e, hc, rfl, ?_, ?_⟩⟩
    · have : its.size = 0 := by rw [← Array.length_toList, h3]; rfl
      rw [this]
      exact Nat.zero_le _
    · rw [h3]
      exact .nil
  · cases h
section
open HandSHeadRun
theorem run_partsC3 {r : PySem.W.OpenRow} {q : Program} {n : Nat} {fa : List He.Fa} {fn : List He.DefD} {fx : List DefX} {ex : PySem.W.Frag → Bool} {fr : PySem.W.Frag → List Addr} {M : Nat} {loose : List PySem.Str} {w : World}
    (h1 : (wholeF (fun p => stepQ (denQ tabQ) p w) fenceQ M r.prog).map (fun x => (looksF r.prog x.1.heap x.2.abs, seenQ q loose (importedModules r.prog.main.body) (fun s => PySem.W.xlAt q [] s && PySem.W.recOk r.toRowW.records s) x.2.abs)) = some (true, PySem.W.openGood q loose))
    (h2 : (wholeF (fun p => stepQ (denQ tabQ) p w) fenceQ M r.prog).map (fun x => He.obsD fa fn (kOfK n (getT x.2))) = some (He.valD fn))
    (h3 : (wholeF (fun p => stepQ (denQ tabQ) p w) fenceQ M r.prog).map (fun x => (fx.map (fnX (kOfK n (getT x.2))), fx.all (okX (kOfK n (getT x.2))) && (ex (kOfK n (getT x.2)) && tabB2 (kOfK n (getT x.2)) (tabF3 n fr (getT x.2)) (fr (kOfK n (getT x.2)))))) = some (fx.map (fun x : DefX => x.d.val), true)) :
    RunEqI r q (hookC3 n fa fn fx ex fr) (fun s => obsC3 n fa fn fx ex fr (getT s)) M loose w := by
  unfold RunEqI
  cases e : wholeF (fun p => stepQ (denQ tabQ) p w) fenceQ M r.prog with
  | none =>
    rw [e] at h1
    cases h1
  | some x =>
    rw [e] at h1 h2 h3
    have a1 := Option.some.inj h1
    have a2 := Option.some.inj h2
    have a3 := Option.some.inj h3
    obtain ⟨b1, b2⟩ := Prod.mk.inj a1
    refine congrArg some (Prod.ext b1 (Prod.ext b2 ?_))
    exact Prod.ext a2 a3
end
end GL
set_option maxHeartbeats 0
namespace K18
open PySem PySem.Spec PyProof.Rows L2 GL
def plain (x : Str) (i : Nat) : He.DefD := ⟨(x, none), x, x, defArgs (tp i), defBody (tp i), defScope (tp i), [], []⟩
def fns : List He.DefD := [⟨("InvalidName", some "__init__"), "__init__", "InvalidName.__init__", defArgs (inClass (tp 5) 0), defBody (inClass (tp 5) 0), defScope (inClass (tp 5) 0), [], []⟩,
  ⟨("InvalidRule", some "__init__"), "__init__", "InvalidRule.__init__", defArgs (inClass (tp 8) 0), defBody (inClass (tp 8) 0), defScope (inClass (tp 8) 0), [], []⟩,
  ⟨("TooMany", some "__init__"), "__init__", "TooMany.__init__", defArgs (inClass (tp 9) 0), defBody (inClass (tp 9) 0), defScope (inClass (tp 9) 0), [], []⟩,
  ⟨("UnknownLevel", some "__init__"), "__init__", "UnknownLevel.__init__", defArgs (inClass (tp 11) 0), defBody (inClass (tp 11) 0), defScope (inClass (tp 11) 0), [], []⟩,
  plain "is_integer" 17,
  plain "is_list" 18,
  plain "is_name" 19,
  plain "_is_word" 20,
  plain "has_names" 21,
  plain "is_one_of" 22,
  plain "is_number" 24,
  ⟨("Ratio", some "__init__"), "__init__", "Ratio.__init__", defArgs (inClass (tp 25) 0), defBody (inClass (tp 25) 0), defScope (inClass (tp 25) 0), [.int 1], []⟩,
  ⟨("Ratio", some "is_below"), "is_below", "Ratio.is_below", defArgs (inClass (tp 25) 7), defBody (inClass (tp 25) 7), defScope (inClass (tp 25) 7), [], []⟩,
  ⟨("Ratio", some "over"), "over", "Ratio.over", defArgs (inClass (tp 25) 8), defBody (inClass (tp 25) 8), defScope (inClass (tp 25) 8), [], []⟩,
  ⟨("Ratio", some "__add__"), "__add__", "Ratio.__add__", defArgs (inClass (tp 25) 9), defBody (inClass (tp 25) 9), defScope (inClass (tp 25) 9), [], []⟩,
  ⟨("Ratio", some "__eq__"), "__eq__", "Ratio.__eq__", defArgs (inClass (tp 25) 13), defBody (inClass (tp 25) 13), defScope (inClass (tp 25) 13), [], []⟩,
  ⟨("Ratio", some "__repr__"), "__repr__", "Ratio.__repr__", defArgs (inClass (tp 25) 15), defBody (inClass (tp 25) 15), defScope (inClass (tp 25) 15), [], []⟩,
  plain "is_cut" 28,
  plain "ratio_cut" 29,
  plain "is_above" 30,
  ⟨("Move", some "__init__"), "__init__", "Move.__init__", defArgs (inClass (tp 32) 0), defBody (inClass (tp 32) 0), defScope (inClass (tp 32) 0), [], []⟩,
  ⟨("Move", some "__eq__"), "__eq__", "Move.__eq__", defArgs (inClass (tp 32) 26), defBody (inClass (tp 32) 26), defScope (inClass (tp 32) 26), [], []⟩,
  plain "_check_divisor" 33,
  plain "_check_part" 34,
  plain "condition_cut" 39,
  plain "wants_above" 40,
  ⟨("Rule", some "__init__"), "__init__", "Rule.__init__", defArgs (inClass (tp 41) 0), defBody (inClass (tp 41) 0), defScope (inClass (tp 41) 0), [], [("when", .adr (kwAt "Rule" "__init__" "when")), ("moves", .non)]⟩,
  ⟨("Rule", some "when"), "when", "Rule.when", defArgs (inClass (tp 41) 3), defBody (inClass (tp 41) 3), defScope (inClass (tp 41) 3), [], []⟩,
  ⟨("Rule", some "moves"), "moves", "Rule.moves", defArgs (inClass (tp 41) 4), defBody (inClass (tp 41) 4), defScope (inClass (tp 41) 4), [], []⟩,
  ⟨("Rule", some "applies"), "applies", "Rule.applies", defArgs (inClass (tp 41) 5), defBody (inClass (tp 41) 5), defScope (inClass (tp 41) 5), [], []⟩,
  ⟨("Rule", some "changed"), "changed", "Rule.changed", defArgs (inClass (tp 41) 6), defBody (inClass (tp 41) 6), defScope (inClass (tp 41) 6), [], []⟩,
  ⟨("Rule", some "__eq__"), "__eq__", "Rule.__eq__", defArgs (inClass (tp 41) 7), defBody (inClass (tp 41) 7), defScope (inClass (tp 41) 7), [], []⟩,
  plain "_check_when" 42,
  plain "_is_condition" 43,
  plain "_check_moves" 44,
  plain "_law_pot" 46,
  plain "_law_draw" 47,
  plain "_law_pick" 48,
  plain "_law_lowest" 49,
  plain "_law_less" 50,
  plain "_law_between" 51,
  plain "_law_given" 52,
  plain "_law_spans" 53,
  plain "_law_shift" 54,
  plain "_law_shifts" 55,
  plain "_law_claims" 56,
  plain "_law_move" 57,
  plain "_law_holds" 58,
  plain "_law_row" 59,
  plain "_law_told" 60,
  plain "_law_applied" 61,
  plain "_law_parts" 62,
  plain "_law_kept" 63,
  plain "_law_changed_right" 64,
  plain "_law_near_unlike" 65,
  plain "_law_right" 66,
  plain "_law_sequence_right" 67,
  plain "law" 68]
def fxs : List DefX := [⟨fun K => wrapAt K (He.ga K "Ratio") "of" "classmethod", ⟨("Ratio", some "of"), "of", "Ratio.of", defArgs (inClass (tp 25) 1), defBody (inClass (tp 25) 1), defScope (inClass (tp 25) 1), [], []⟩⟩,
  ⟨fun K => wrapAt K (He.ga K "Move") "divisor" "property", ⟨("Move", some "divisor"), "divisor", "Move.divisor", defArgs (inClass (tp 32) 5), defBody (inClass (tp 32) 5), defScope (inClass (tp 32) 5), [], []⟩⟩,
  ⟨fun K => wrapAt K (He.ga K "Move") "plus" "property", ⟨("Move", some "plus"), "plus", "Move.plus", defArgs (inClass (tp 32) 6), defBody (inClass (tp 32) 6), defScope (inClass (tp 32) 6), [], []⟩⟩,
  ⟨fun K => wrapAt K (He.ga K "Move") "low" "property", ⟨("Move", some "low"), "low", "Move.low", defArgs (inClass (tp 32) 7), defBody (inClass (tp 32) 7), defScope (inClass (tp 32) 7), [], []⟩⟩,
  ⟨fun K => wrapAt K (He.ga K "Move") "high" "property", ⟨("Move", some "high"), "high", "Move.high", defArgs (inClass (tp 32) 8), defBody (inClass (tp 32) 8), defScope (inClass (tp 32) 8), [], []⟩⟩,
  ⟨fun K => wrapAt K (He.ga K "Rule") "goal" "property", ⟨("Rule", some "goal"), "goal", "Rule.goal", defArgs (inClass (tp 41) 1), defBody (inClass (tp 41) 1), defScope (inClass (tp 41) 1), [], []⟩⟩,
  ⟨fun K => wrapAt K (He.ga K "Rule") "answer" "property", ⟨("Rule", some "answer"), "answer", "Rule.answer", defArgs (inClass (tp 41) 2), defBody (inClass (tp 41) 2), defScope (inClass (tp 41) 2), [], []⟩⟩]
def fas : List He.Fa := [.glo "InvalidName",
  .glo "InvalidRule",
  .glo "TooMany",
  .glo "MissingError",
  .glo "UnknownLevel",
  .glo "is_integer",
  .glo "is_list",
  .glo "is_name",
  .glo "_is_word",
  .glo "has_names",
  .glo "is_one_of",
  .glo "is_number",
  .glo "Ratio",
  .glo "is_cut",
  .glo "ratio_cut",
  .glo "is_above",
  .glo "Move",
  .glo "_check_divisor",
  .glo "_check_part",
  .glo "SIDES",
  .glo "PARTS",
  .glo "condition_cut",
  .glo "wants_above",
  .glo "Rule",
  .glo "_check_when",
  .glo "_is_condition",
  .glo "_check_moves",
  .glo "_law_pot",
  .glo "_law_draw",
  .glo "_law_pick",
  .glo "_law_lowest",
  .glo "_law_less",
  .glo "_law_between",
  .glo "_law_given",
  .glo "_law_spans",
  .glo "_law_shift",
  .glo "_law_shifts",
  .glo "_law_claims",
  .glo "_law_move",
  .glo "_law_holds",
  .glo "_law_row",
  .glo "_law_told",
  .glo "_law_applied",
  .glo "_law_parts",
  .glo "_law_kept",
  .glo "_law_changed_right",
  .glo "_law_near_unlike",
  .glo "_law_right",
  .glo "_law_sequence_right",
  .glo "law",
  .int "LONGEST_WORD" 8,
  .int "MOST_CONDITIONS" 8,
  .str "LETTERS" "abcdefghijklmnopqrstuvwxyz",
  .free "isinstance",
  .free "int",
  .free "bool",
  .free "len",
  .free "abs",
  .free "max",
  .free "min",
  .free "divmod",
  .free "str",
  .free "list",
  .free "all",
  .free "range",
  .free "tuple",
  .free "repr",
  .free "any",
  .free "dict",
  .free "sorted",
  .free "enumerate",
  .free "LookupError",
  .cls "Ratio",
  .noat "Ratio" "_top",
  .noat "Ratio" "_bottom",
  .mkr "Ratio",
  .cls "Move",
  .noat "Move" "_divisor",
  .noat "Move" "_plus",
  .noat "Move" "_low",
  .noat "Move" "_high",
  .mkr "Move",
  .cls "Rule",
  .noat "Rule" "_goal",
  .noat "Rule" "_answer",
  .noat "Rule" "_when",
  .noat "Rule" "_moves",
  .mkr "Rule",
  .meth "Ratio" "is_below",
  .meth "Ratio" "over",
  .meth "Ratio" "__add__",
  .meth "Ratio" "__eq__",
  .meth "Ratio" "__repr__",
  .meth "Move" "__eq__",
  .meth "Rule" "when",
  .meth "Rule" "moves",
  .meth "Rule" "applies",
  .meth "Rule" "changed",
  .meth "Rule" "__eq__"]
def mroB (K : PySem.W.Frag) (C : Addr) : Bool := match PySem.W.clsIn K C with
  | some cd => (match cd.mro with | .ref a :: _ => a == C | _ => false)
  | none => false
def chks (K : PySem.W.Frag) : List Bool := [decide (PySem.W.specialIn K (.builtin "object.__class__") "__get__" = some (some (.builtin "getset_descriptor.__get__"))),
  decide (PySem.W.takesIn K (.builtin "object.__class__") = some true),
  He.eqO (PySem.W.findIn K (.ref (He.ga K "Ratio")) "__class__") (some (some (.builtin "object.__class__"))),
  decide (PySem.W.mroIn K (He.ga K "Ratio") (.type "object") = some true),
  He.eqO (PySem.W.findIn K (.ref (He.ga K "Ratio")) "__ne__") (some (some (.builtin "object.__ne__"))),
  He.eqO (PySem.W.findIn K (.ref (He.ga K "Move")) "__class__") (some (some (.builtin "object.__class__"))),
  decide (PySem.W.mroIn K (He.ga K "Move") (.type "object") = some true),
  He.eqO (PySem.W.findIn K (.ref (He.ga K "Move")) "__ne__") (some (some (.builtin "object.__ne__"))),
  He.eqO (PySem.W.findIn K (.ref (He.ga K "Rule")) "__class__") (some (some (.builtin "object.__class__"))),
  decide (PySem.W.mroIn K (He.ga K "Rule") (.type "object") = some true),
  He.eqO (PySem.W.findIn K (.ref (He.ga K "Rule")) "__ne__") (some (some (.builtin "object.__ne__"))),
  decide (PySem.W.kitOne K (.ref (He.ga K "Ratio")) (.type "int") = some false),
  decide (PySem.W.kitOne K (.type "int") (.ref (He.ga K "Ratio")) = some false),
  He.eqO (PySem.W.findIn K (.ref (He.ga K "Ratio")) "__radd__") (some none),
  mroB K (He.ga K "Ratio"),
  decide (PySem.W.subIn K (.type "int") (.ref (He.ga K "Ratio")) = some false),
  propB K (He.ga K "Move") "divisor",
  propB K (He.ga K "Move") "plus",
  propB K (He.ga K "Move") "low",
  propB K (He.ga K "Move") "high",
  propB K (He.ga K "Rule") "goal",
  propB K (He.ga K "Rule") "answer",
  cmetB K (He.ga K "Ratio") (.type "type") "of",
  PySem.W.readsIn K (He.ga K "Ratio") (.type "type"),
  He.eqO (PySem.W.specialIn K (.ref (He.ga K "Ratio")) "__getattribute__") (some (some (.builtin "type.__getattribute__"))),
  He.eqO (PySem.W.nsIn K mainGlobals "gcd") (some (some (.builtin "math.gcd"))),
  xcB K (He.ga K "InvalidName") .ve,
  He.eqO (PySem.W.findIn K (.ref (He.ga K "InvalidName")) "value") (some none),
  He.eqO (PySem.W.findIn K (.ref (He.ga K "InvalidName")) "__init__") (some (some (.ref (He.ma K (He.ga K "InvalidName") "__init__")))),
  decide (PySem.W.typeIn K (.ref (He.ma K (He.ga K "InvalidName") "__init__")) = some (.type "function")),
  xcB K (He.ga K "InvalidRule") .ve,
  He.eqO (PySem.W.findIn K (.ref (He.ga K "InvalidRule")) "part") (some none),
  He.eqO (PySem.W.findIn K (.ref (He.ga K "InvalidRule")) "position") (some none),
  He.eqO (PySem.W.findIn K (.ref (He.ga K "InvalidRule")) "__init__") (some (some (.ref (He.ma K (He.ga K "InvalidRule") "__init__")))),
  decide (PySem.W.typeIn K (.ref (He.ma K (He.ga K "InvalidRule") "__init__")) = some (.type "function")),
  xcB K (He.ga K "TooMany") .ve,
  He.eqO (PySem.W.findIn K (.ref (He.ga K "TooMany")) "kind") (some none),
  He.eqO (PySem.W.findIn K (.ref (He.ga K "TooMany")) "limit") (some none),
  He.eqO (PySem.W.findIn K (.ref (He.ga K "TooMany")) "__init__") (some (some (.ref (He.ma K (He.ga K "TooMany") "__init__")))),
  decide (PySem.W.typeIn K (.ref (He.ma K (He.ga K "TooMany") "__init__")) = some (.type "function")),
  xcB K (He.ga K "UnknownLevel") .le,
  He.eqO (PySem.W.findIn K (.ref (He.ga K "UnknownLevel")) "value") (some none),
  He.eqO (PySem.W.findIn K (.ref (He.ga K "UnknownLevel")) "__init__") (some (some (.ref (He.ma K (He.ga K "UnknownLevel") "__init__")))),
  decide (PySem.W.typeIn K (.ref (He.ma K (He.ga K "UnknownLevel") "__init__")) = some (.type "function")),
  decide (PySem.W.exmOne K (.ref (He.ga K "UnknownLevel")) (.ref (He.ga K "UnknownLevel")) = some true),
  decide (PySem.W.kitOne K (.ref (He.ga K "UnknownLevel")) (.ref (He.ga K "MissingError")) = some true),
  decide (PySem.W.kitOne K (.ref (He.ga K "UnknownLevel")) (.type "LookupError") = some true),
  decide (PySem.W.kitOne K (.type "tuple") (.ref (He.ga K "Rule")) = some false),
  PySem.W.notFirst K (He.ga K "Rule") (.type "tuple"),
  He.tupB K "SIDES" [.str "from", .str "above", .str "to", .str "below"],
  He.tupB K "PARTS" [.str "goal", .str "answer", .str "when", .str "moves"],
  tup0B K (kwAt "Rule" "__init__" "when" K)]
def exB (K : PySem.W.Frag) : Bool := sysB K && (chks K).all id
def lamF (K : PySem.W.Frag) : List Addr := []
end K18
set_option maxHeartbeats 0
namespace K18
open PySem PySem.Spec PyProof.Rows L2 GL
abbrev R : PySem.W.OpenRow := PySem.W.OpenLaw.row PySem.Challenge.rw_fademodes_k20_rules_made
abbrev hk : PySem.W.Hook := hookC3 5 fas fns fxs exB lamF
def ob (s : PySem.W.SharedT) : AlZ := obsC3 5 fas fns fxs exB lamF (HandSHeadRun.getT s)
theorem ob_eq (s : PySem.W.SharedT) : ob s = hk.obs s.abs := obsC3_eq (HandSHeadRun.getT_eq s)
def loose : List PySem.Str := (["_wall", "__name__", "FadeError", "InvalidNumber", "InvalidName", "InvalidCut", "InvalidMove", "InvalidRule", "TooMany", "MissingError", "UnknownLevel", "StateError", "DividedByZero", "LETTERS", "LONGEST_WORD", "is_integer", "is_list", "is_name", "_is_word", "has_names"] : List PySem.Str) ++ (["is_one_of", "is_number", "Ratio", "_ratios_of", "is_cut", "ratio_cut", "is_above", "Move", "_check_divisor", "_check_part", "SIDES", "PARTS", "MOST_CONDITIONS", "condition_cut", "wants_above", "Rule", "_check_when", "_is_condition", "_check_moves", "_law_pot"] : List PySem.Str) ++ (["_law_draw", "_law_pick", "_law_lowest", "_law_less", "_law_between", "_law_given", "_law_spans", "_law_shift", "_law_shifts", "_law_claims", "_law_move", "_law_holds", "_law_row", "_law_told", "_law_applied", "_law_parts", "_law_kept", "_law_changed_right", "_law_near_unlike", "_law_right"] : List PySem.Str) ++ (["_law_sequence_right"] : List PySem.Str)
theorem run1 (w : World) : (HandSHeadRun.wholeF (fun p => HandSHeadRun.stepQ (HandSHeadRun.denQ HandSHeadRun.tabQ) p w) HandSHeadRun.fenceQ 20000 R.prog).map (fun x => (HandSHeadRun.looksF R.prog x.1.heap x.2.abs, HandSHeadRun.seenQ (PySem.W.view R.prog [0, 68]) loose (importedModules R.prog.main.body) (fun s => PySem.W.xlAt (PySem.W.view R.prog [0, 68]) [] s && PySem.W.recOk R.toRowW.records s) x.2.abs)) = some (true, PySem.W.openGood (PySem.W.view R.prog [0, 68]) loose) := by
  kernel_rfl
theorem run2 (w : World) : (HandSHeadRun.wholeF (fun p => HandSHeadRun.stepQ (HandSHeadRun.denQ HandSHeadRun.tabQ) p w) HandSHeadRun.fenceQ 20000 R.prog).map (fun x => He.obsD fas fns (kOfK 5 (HandSHeadRun.getT x.2))) = some (He.valD fns) := by
  kernel_rfl
theorem run3 (w : World) : (HandSHeadRun.wholeF (fun p => HandSHeadRun.stepQ (HandSHeadRun.denQ HandSHeadRun.tabQ) p w) HandSHeadRun.fenceQ 20000 R.prog).map (fun x => (fxs.map (fnX (kOfK 5 (HandSHeadRun.getT x.2))), fxs.all (okX (kOfK 5 (HandSHeadRun.getT x.2))) && (exB (kOfK 5 (HandSHeadRun.getT x.2)) && tabB2 (kOfK 5 (HandSHeadRun.getT x.2)) (tabF3 5 lamF (HandSHeadRun.getT x.2)) (lamF (kOfK 5 (HandSHeadRun.getT x.2)))))) = some (fxs.map (fun x : DefX => x.d.val), true) := by
  kernel_rfl
theorem run (w : World) : HandSHeadRun.RunEqI R (PySem.W.view R.prog [0, 68]) hk ob 20000 loose w := run_partsC3 (run1 w) (run2 w) (run3 w)
end K18
set_option maxHeartbeats 4000000
namespace K18
open PySem PySem.Spec PyProof.Rows L2 GL
/-! ### numbers in lowest terms -/
theorem norm {t b : Int} (hb : b ≠ 0) : t.fdiv (if 0 < b then (t.natAbs.gcd b.natAbs : Int) else -(t.natAbs.gcd b.natAbs : Int)) = (Rat.divInt t b).num ∧
    b.fdiv (if 0 < b then (t.natAbs.gcd b.natAbs : Int) else -(t.natAbs.gcd b.natAbs : Int)) = ((Rat.divInt t b).den : Int) := by
  have hg : b.gcd t = t.natAbs.gcd b.natAbs := Nat.gcd_comm _ _
  have g0 : 0 < t.natAbs.gcd b.natAbs := Nat.gcd_pos_of_pos_right _ (Int.natAbs_pos.mpr hb)
  rw [Rat.num_divInt, Rat.den_divInt, if_neg hb, hg]
  generalize hG : t.natAbs.gcd b.natAbs = G at *
  have dT : (G : Int) ∣ t := by
    rw [← hG]
    exact Int.ofNat_dvd_left.mpr (Nat.gcd_dvd_left _ _)
  have dB : (G : Int) ∣ b := by
    rw [← hG]
    exact Int.ofNat_dvd_left.mpr (Nat.gcd_dvd_right _ _)
  obtain ⟨x, rfl⟩ := dT
  obtain ⟨y, rfl⟩ := dB
  have gi : (0 : Int) < (G : Int) := by omega
  have gn : (G : Int) ≠ 0 := by omega
  have y0 : y ≠ 0 := by
    rintro rfl
    exact hb (Int.mul_zero _)
  have e3 : ((((G : Int) * y).natAbs / G : Nat) : Int) = (y.natAbs : Int) := by
    rw [Int.natAbs_mul, Int.natAbs_natCast, Nat.mul_div_cancel_left _ g0]
  rw [e3]
  by_cases hp : 0 < (G : Int) * y
  · have yp : 0 < y := by
      rcases Int.lt_or_gt_of_ne y0 with q | q
      · exact absurd (Int.mul_neg_of_pos_of_neg gi q) (by omega)
      · exact q
    rw [if_pos hp, Int.fdiv_eq_ediv_of_nonneg _ (by omega), Int.fdiv_eq_ediv_of_nonneg _ (by omega), Int.mul_ediv_cancel_left _ gn, Int.mul_ediv_cancel_left _ gn, Int.sign_eq_one_of_pos hp, Int.one_mul, Int.mul_ediv_cancel_left _ gn]
    exact ⟨rfl, by omega⟩
  · have hn : (G : Int) * y < 0 := by
      have : (G : Int) * y ≠ 0 := hb
      omega
    have yn : y < 0 := by
      rcases Int.lt_or_gt_of_ne y0 with q | q
      · exact q
      · exact absurd (Int.mul_pos gi q) hp
    have e1 : ((G : Int) * x).fdiv (-(G : Int)) = -x := by
      rw [← Int.neg_fdiv_neg, Int.neg_neg, Int.fdiv_eq_ediv_of_nonneg _ (by omega), ← Int.mul_neg, Int.mul_ediv_cancel_left _ gn]
    have e2 : ((G : Int) * y).fdiv (-(G : Int)) = -y := by
      rw [← Int.neg_fdiv_neg, Int.neg_neg, Int.fdiv_eq_ediv_of_nonneg _ (by omega), ← Int.mul_neg, Int.mul_ediv_cancel_left _ gn]
    rw [if_neg hp, e1, e2, Int.sign_eq_neg_one_of_neg hn, Int.neg_one_mul, ← Int.mul_neg, Int.mul_ediv_cancel_left _ gn]
    exact ⟨rfl, by omega⟩
/-! ### the class Ratio -/
abbrev aR (K : PySem.W.Frag) : Addr := He.ga K "Ratio"
structure RF (K : PySem.W.Frag) (mg : Str → Option Value) : Prop where
  cl : Cls K (aR K)
  nT : NoAttr K (aR K) "_top"
  nB : NoAttr K (aR K) "_bottom"
  kc : PySem.W.findIn K (.ref (aR K)) "__class__" = some (some (.builtin "object.__class__"))
  sp : PySem.W.specialIn K (.builtin "object.__class__") "__get__" = some (some (.builtin "getset_descriptor.__get__"))
  tk : PySem.W.takesIn K (.builtin "object.__class__") = some true
  ob : PySem.W.mroIn K (aR K) (.type "object") = some true
  ki : PySem.W.kitOne K (.ref (aR K)) (.type "int") = some false
  gR : mg "Ratio" = some (.ref (aR K))
  isi : mg "isinstance" = none
  int : mg "int" = none
  bool : mg "bool" = none
/-- a Ratio at an address -/
def RatAt (K : PySem.W.Frag) (H : Hp) (p : Addr) (q : Rat) : Prop := ∃ dx, H p = some (.ins (aR K) dx [("_top", .int q.num), ("_bottom", .int q.den)])
theorem RatAt.same {K : PySem.W.Frag} {H H' : Hp} {p : Addr} {q : Rat} (h : RatAt K H p q) (k : Same H H') : RatAt K H' p q := by
  obtain ⟨dx, e⟩ := h
  exact ⟨dx, k _ _ e⟩
theorem RatAt.ty {K : PySem.W.Frag} {mg : Str → Option Value} {H : Hp} {p : Addr} {q : Rat} (T : RF K mg) (h : RatAt K H p q) : TyX K H (.ref p) (.ref (aR K)) := by
  obtain ⟨dx, e⟩ := h
  exact .base (.ins e T.cl T.kc T.sp T.tk T.ob)
/-- a NUMBER: a whole number, or a Ratio -/
def NumAt (K : PySem.W.Frag) (H : Hp) (x : V) (q : Rat) : Prop := (∃ i : Int, x = .int i ∧ q = (i : Rat)) ∨ ∃ p, x = .ref p ∧ RatAt K H p q
theorem NumAt.same {K : PySem.W.Frag} {H H' : Hp} {x : V} {q : Rat} (h : NumAt K H x q) (k : Same H H') : NumAt K H' x q := by
  rcases h with h | ⟨p, e, h⟩
  · exact .inl h
  · exact .inr ⟨p, e, h.same k⟩
section
variable {P : Program} {w : World} {K : PySem.W.Frag} {mg : Str → Option Value} {base : Heap}
/-! ### is_integer -/
def spIsInt (K : PySem.W.Frag) : Sp := fun vs H Q _ => ∃ (x : V) (t : Value) (b1 b2 : Bool), vs = [x] ∧ TyX K H x t ∧ PySem.W.kitOne K t (.type "int") = some b1 ∧ (b1 = true → PySem.W.kitOne K t (.type "bool") = some b2) ∧ Q (.bl (b1 && !b2)) H
theorem scIsInt : FnScope ["value"] ["value"] (defScope sIsInt) := ⟨rfl, rfl, rfl, by decide +kernel, rfl, by decide +kernel, by decide +kernel⟩
theorem ok_isInt {f : Addr} {fd : FuncData} (F : Fun K "is_integer" "is_integer" sIsInt f fd) (T : RF K mg) : FnOk P w K mg base CX0 1 f fd ["value"] (spIsInt K) := by
  refine F.ok scIsInt (fun vs H Q E h => ?_) (fun cdv A outer s H vs Q E hr h => ?_)
  · obtain ⟨x, t, b1, b2, rfl, _⟩ := h
    rfl
  · obtain ⟨x, t, b1, b2, rfl, ty, k1, k2, q⟩ := h
    refine ⟨_, pss_one (ps_ret (pe_and (pe_callB call_isi (by rfl) T.isi (by decide +kernel) (pa_cons (pv 0) (pa_cons (pe_bltn (v := .ty "int") (by rfl) T.int (by decide +kernel) rfl) pa_nil)))
      (pe_one (pe_not (pe_callB call_isi (by rfl) T.isi (by decide +kernel) (pa_cons (pv 0) (pa_cons (pe_bltn (v := .ty "bool") (by rfl) T.bool (by decide +kernel) rfl) pa_nil))))))), ?_⟩
    refine ⟨_, rfl, x, .ty "int", t, _, b1, rfl, .ty _, ty, k1, b1, rfl, ?_⟩
    cases b1 with
    | true => exact iteT ⟨_, rfl, x, .ty "bool", t, _, b2, rfl, .ty _, ty, k2 rfl, b2, rfl, q⟩
    | false => exact q
/-! ### is_number -/
def spIsNum (K : PySem.W.Frag) : Sp := fun vs H Q _ => ∃ (x : V) (q : Rat), vs = [x] ∧ NumAt K H x q ∧ Q (.bl true) H
theorem scIsNum : FnScope ["value"] ["value"] (defScope sIsNum) := ⟨rfl, rfl, rfl, by decide +kernel, rfl, by decide +kernel, by decide +kernel⟩
theorem ok_isNum {f fI : Addr} {fd fdI : FuncData} (F : Fun K "is_number" "is_number" sIsNum f fd) (T : RF K mg) (FI : Fun K "is_integer" "is_integer" sIsInt fI fdI) (gI : mg "is_integer" = some (.ref fI)) (bI : Binds K fdI ["value"] []) (kr : PySem.W.kitOne K (.type "int") (.ref (aR K)) = some false) :
    FnOk P w K mg base CX0 2 f fd ["value"] (spIsNum K) := by
  have GI : FnOk P w K mg base CX0 1 fI fdI ["value"] (spIsInt K) := ok_isInt FI T
  refine F.ok scIsNum (fun vs H Q E h => ?_) (fun cdv A outer s H vs Q E hr h => ?_)
  · obtain ⟨x, q, rfl, _⟩ := h
    rfl
  · obtain ⟨x, q, rfl, hx, k⟩ := h
    refine ⟨_, pss_one (ps_ret (pe_or (pe_callB call_isi (by rfl) T.isi (by decide +kernel) (pa_cons (pv 0) (pa_cons (pe_glob (v := .ref (aR K)) rfl T.gR rfl) pa_nil)))
      (pe_one (pe_call GI hr rfl gI FI.kp bI .nil pass0 (pa_cons (pv 0) pa_nil))))), ?_⟩
    rcases hx with ⟨i, rfl, rfl⟩ | ⟨p, rfl, hp⟩
    · refine ⟨_, rfl, .int i, .ref (aR K), .type "int", _, false, rfl, .own _, .base (.int i), kr, false, rfl, ?_⟩
      refine iteF ⟨_, rfl, .int i, .type "int", true, false, rfl, .base (.int i), kit_ty (by decide +kernel), fun _ => kit_ty (by decide +kernel), k⟩
    · exact ⟨_, rfl, .ref p, .ref (aR K), .ref (aR K), _, true, rfl, .own _, hp.ty T, (by unfold PySem.W.kitOne; rw [if_pos (beq_self_eq_true _)]), true, rfl, iteT k⟩
end
end K18
set_option maxHeartbeats 4000000
namespace K18
open PySem PySem.Spec PyProof.Rows L2 GL
theorem ps_never {X : Cx} {st : Stmt} : PS X st (fun _ _ _ => False) := ⟨fun pins s σ H D I h => h.elim⟩
theorem op_fdivZ {X : Cx} : OpR X (binaryOp .FloorDiv) (rI (fun _ j => j ≠ 0 ∧ j.natAbs.log2 < 9000) fun i j => .int (i.fdiv j)) :=
  opI fun i j t u s Q E hc q => floordiv_int hc.1 q (Or.inl (PyProof.noPylong_of_log2 hc.2))
theorem log2_lt {n k : Nat} (h : n < 2 ^ k) (hk : 0 < k) : n.log2 < k := by
  by_cases z : n = 0
  · subst z
    simpa using hk
  · exact (Nat.log2_lt z).mpr h
section
variable {P : Program} {w : World} {K : PySem.W.Frag} {mg : Str → Option Value} {base : Heap}
/-! ### Ratio.__init__ -/
def spRInit (K : PySem.W.Frag) : Sp := fun vs H Q _ => ∃ (a dx : Addr) (t b : Int), vs = [.ref a, .int t, .int b] ∧ b ≠ 0 ∧ b.natAbs < 2 ^ 9000 ∧ H a = some (.ins (aR K) dx []) ∧
  ∀ H', H' a = some (.ins (aR K) dx [("_top", .int (Rat.divInt t b).num), ("_bottom", .int (Rat.divInt t b).den)]) → (∀ c o, c ≠ a → H c = some o → H' c = some o) → Q .non H'
theorem scRInit : FnScope ["self", "top", "bottom", "common"] ["self", "top", "bottom"] (defScope (sRatio 0)) := ⟨rfl, rfl, rfl, by decide +kernel, rfl, by decide +kernel, by decide +kernel⟩
theorem ok_rInit {f fI : Addr} {fd fdI : FuncData} {dv : List V} (F : FunD K "__init__" "Ratio.__init__" (defArgs (sRatio 0)) (defBody (sRatio 0)) (defScope (sRatio 0)) dv [] f fd) (T : RF K mg) (FI : Fun K "is_integer" "is_integer" sIsInt fI fdI) (gI : mg "is_integer" = some (.ref fI)) (bI : Binds K fdI ["value"] []) (gG : mg "gcd" = some (.builtin "math.gcd")) :
    FnOk P w K mg base CX0 2 f fd ["self", "top", "bottom"] (spRInit K) := by
  have GI : FnOk P w K mg base CX0 1 fI fdI ["value"] (spIsInt K) := ok_isInt FI T
  refine F.ok scRInit (fun vs H Q E h => ?_) (fun cdv A outer s H vs Q E hr h => ?_)
  · obtain ⟨a, dx, t, b, rfl, _⟩ := h
    rfl
  · obtain ⟨a, dx, t, b, rfl, hb, hz, ea, k⟩ := h
    refine ⟨_, pss_cons (ps_if (pt_not (pt_val (pe_call GI hr rfl gI FI.kp bI .nil pass0 (pa_cons (pv 1) pa_nil)))) (pss_one ps_never) pss_nil)
      (pss_cons (ps_if (PW.pt (pw_or (pt_not (pt_val (pe_call GI hr rfl gI FI.kp bI .nil pass0 (pa_cons (pv 2) pa_nil)))) (pw_or1 (pt_cmpR op_eq (pv 2) pe_int (nomark _))))) (pss_one ps_never) pss_nil)
      (pss_cons (ps_set (i := 3) scRInit.nd rfl (Or.inl rfl) (pe_ifExp (pt_cmpR op_gt (pv 2) pe_int (nomark _)) (pe_callBfun cr_gcd rfl gG (pa_cons (pv 1) (pa_cons (pv 2) pa_nil))) (pe_un un_neg (pe_callBfun cr_gcd rfl gG (pa_cons (pv 1) (pa_cons (pv 2) pa_nil))))))
      (pss_cons (ps_fld (pv 0) (pe_op op_fdivZ (pv 1) (pv 3)) rfl) (pss_one (ps_fld (pv 0) (pe_op op_fdivZ (pv 2) (pv 3)) rfl))))), ?_⟩
    refine ⟨_, rfl, .int t, .type "int", true, false, rfl, .base (.int t), kit_ty (by decide +kernel), fun _ => kit_ty (by decide +kernel), true, rfl, ?_⟩
    refine iteF ?_
    refine ⟨_, rfl, .int b, .type "int", true, false, rfl, .base (.int b), kit_ty (by decide +kernel), fun _ => kit_ty (by decide +kernel), true, rfl, ?_⟩
    refine iteF ⟨_, rfl, rfl, _, rfl, ?_⟩
    have e0 : decide (V.int b = V.int 0) = false := decide_eq_false fun z => hb (by injection z)
    dsimp only
    rw [e0]
    refine iteF ?_
    have go : ∀ c : Int, c ≠ 0 → c.natAbs.log2 < 9000 → t.fdiv c = (Rat.divInt t b).num → b.fdiv c = ((Rat.divInt t b).den : Int) →
        tSeq (sFld K (tVar 0) (tOp (rI (fun _ j => j ≠ 0 ∧ j.natAbs.log2 < 9000) fun i j => .int (i.fdiv j)) (tVar 1) (tVar 3)) "_top") (sFld K (tVar 0) (tOp (rI (fun _ j => j ≠ 0 ∧ j.natAbs.log2 < 9000) fun i j => .int (i.fdiv j)) (tVar 2) (tVar 3)) "_bottom")
          { nx := fun _ H' => Q .non H', rt := Q } [some (.ref a), some (.int t), some (.int b), some (.int c)] H := by
      intro c c0 cl e1 e2
      refine ⟨_, rfl, _, rfl, _, _, rfl, rfl, ⟨c0, cl⟩, _, rfl, a, _, dx, _, rfl, ea, T.cl, T.nT, (by decide), ?_⟩
      refine ⟨_, rfl, _, rfl, _, _, rfl, rfl, ⟨c0, cl⟩, _, rfl, a, _, dx, _, rfl, upd_same, T.cl, T.nB, (by show 1 < 1000; decide), ?_⟩
      dsimp only
      rw [e1, e2]
      exact k _ upd_same fun c o ne e => by rw [upd_ne ne, upd_ne ne]; exact e
    have N := norm (t := t) hb
    have g0 : 0 < t.natAbs.gcd b.natAbs := Nat.gcd_pos_of_pos_right _ (Int.natAbs_pos.mpr hb)
    have gl : (t.natAbs.gcd b.natAbs).log2 < 9000 := log2_lt (Nat.lt_of_le_of_lt (Nat.gcd_le_right _ (Int.natAbs_pos.mpr hb)) hz) (by decide)
    refine ⟨_, rfl, _, _, rfl, rfl, _, rfl, ?_⟩
    refine ite2 (fun c => ?_) (fun c => ?_)
    · rw [if_pos (of_decide_eq_true c)] at N
      exact ⟨_, rfl, _, rfl, t, b, rfl, go _ (by omega) gl N.1 N.2⟩
    · rw [if_neg fun z => c (decide_eq_true z)] at N
      exact ⟨_, rfl, _, rfl, t, b, rfl, _, rfl, go _ (by omega) (by rw [Int.natAbs_neg]; exact gl) N.1 N.2⟩
end
end K18
set_option maxHeartbeats 4000000
namespace K18
open PySem PySem.Spec PyProof.Rows L2 GL
section
variable {P : Program} {w : World} {K : PySem.W.Frag} {mg : Str → Option Value} {base : Heap}
/-- Ratio.__init__ without a bottom -/
theorem rInit_binds {f : Addr} {fd : FuncData} {i : Int} (F : FunD K "__init__" "Ratio.__init__" (defArgs (sRatio 0)) (defBody (sRatio 0)) (defScope (sRatio 0)) [.int i] [] f fd) :
    ∃ d : Value, Vals [V.int i] [d] ∧ Binds K fd ["self", "top", "bottom"] [d] ∧ Binds K fd ["self", "top", "bottom"] [] := by
  obtain ⟨oc, od, dV, kV, doc, pm, an, cdv, ct, osl, rfl, lk, hcd, hD, hK⟩ := F.ex
  rcases hD with ⟨z, _⟩ | ⟨_, T, o, its, n, rfl, lT, hdata, hv⟩
  · cases z
  cases hv with
  | cons r0 rest =>
    cases rest
    rename_i d
    refine ⟨d, .cons r0 .nil, fun s us kin hl => ?_, fun s us kin hl => ?_⟩
    · have l2 : us.length = 2 := by
        rw [List.length_append] at hl
        exact Nat.succ.inj hl
      match us, l2 with
      | [a, b], _ => exact BindsTo.of_looks fun M => looks_items (its := #[d]) kin lT hdata (.of_pure rfl)
    · have l2 : us.length = 3 := by
        rw [List.append_nil] at hl
        exact hl
      match us, l2 with
      | [a, b, c], _ => exact BindsTo.of_looks fun M => looks_items (its := #[d]) kin lT hdata (.of_pure rfl)
end
end K18
set_option maxHeartbeats 4000000
namespace K18
open PySem PySem.Spec PyProof.Rows L2 GL
/-- Ratio(a, b), its parts at the end of the call -/
theorem made_rat {K : PySem.W.Frag} {H : Hp} {Q : VK} {E : XK} {x dx : Addr} {t b : Int} (hx : H x = none) (hd : H dx = none) (ne : dx ≠ x) (hb : b ≠ 0) (hz : b.natAbs < 2 ^ 9000) (k : ∀ p H', Same H H' → H p = none → RatAt K H' p (Rat.divInt t b) → Q (.ref p) H') :
    spRInit K [.ref x, .int t, .int b] (upd (upd H dx (.own x)) x (.ins (aR K) dx [])) (fun v H2 => v = .non ∧ Q (.ref x) H2) E :=
  ⟨x, dx, t, b, rfl, hb, hz, upd_same, fun H' e kp => ⟨rfl, k x H' (fun c o ec => kp c o (ne_of_none ec hx) (by rw [upd_ne (ne_of_none ec hx), upd_ne (ne_of_none ec hd)]; exact ec)) hx ⟨dx, e⟩⟩⟩
/-- the parts of Ratio that others call -/
structure RG (P : Program) (w : World) (K : PySem.W.Frag) (mg : Str → Option Value) (base : Heap) : Prop where
  T : RF K mg
  kr : PySem.W.kitOne K (.type "int") (.ref (aR K)) = some false
  isInt : ∃ f fd, FnOk P w K mg base CX0 1 f fd ["value"] (spIsInt K) ∧ mg "is_integer" = some (.ref f) ∧ Binds K fd ["value"] [] ∧ PySem.W.keepIn K (.ref f) = true
  mR : ∃ f fd d, Mk K (aR K) f ∧ FnOk P w K mg base CX0 2 f fd ["self", "top", "bottom"] (spRInit K) ∧ Vals [V.int 1] [d] ∧ Binds K fd ["self", "top", "bottom"] [d] ∧ Binds K fd ["self", "top", "bottom"] []
section
variable {P : Program} {w : World} {K : PySem.W.Frag} {mg : Str → Option Value} {base : Heap}
/-! ### Ratio.of -/
def spOf (K : PySem.W.Frag) : Sp := fun vs H Q _ => ∃ (x : V) (q : Rat), vs = [.ref (aR K), x] ∧ NumAt K H x q ∧ ∀ p H', Same H H' → RatAt K H' p q → Q (.ref p) H'
theorem scOf : FnScope ["cls", "number"] ["cls", "number"] (defScope (sRatio 1)) := ⟨rfl, rfl, rfl, by decide +kernel, rfl, by decide +kernel, by decide +kernel⟩
theorem ok_of {f : Addr} {fd : FuncData} (F : FunD K "of" "Ratio.of" (defArgs (sRatio 1)) (defBody (sRatio 1)) (defScope (sRatio 1)) [] [] f fd) (G : RG P w K mg base) : FnOk P w K mg base CX0 4 f fd ["cls", "number"] (spOf K) := by
  obtain ⟨fR, fdR, d, MR, GR, vd, bR, _⟩ := G.mR
  have T := G.T
  refine F.ok scOf (fun vs H Q E h => ?_) (fun cdv A outer s H vs Q E hr h => ?_)
  · obtain ⟨x, q, rfl, _⟩ := h
    rfl
  · obtain ⟨x, q, rfl, hx, k⟩ := h
    refine ⟨_, pss_cons (ps_if (pt_val (pe_callB call_isi (by rfl) T.isi (by decide +kernel) (pa_cons (pv 1) (pa_cons (pe_glob (v := .ref (aR K)) rfl T.gR rfl) pa_nil)))) (pss_one (ps_ret (pv 1))) pss_nil)
      (pss_one (ps_ret (pe_make MR GR hr rfl T.gR bR vd pass0 (pa_cons (pv 1) pa_nil)))), ?_⟩
    rcases hx with ⟨i, rfl, rfl⟩ | ⟨p, rfl, hp⟩
    · refine ⟨_, rfl, .int i, .ref (aR K), .type "int", _, false, rfl, .own _, .base (.int i), G.kr, false, rfl, ?_⟩
      refine iteF ⟨_, rfl, fun x dx hx hd ne => ?_⟩
      refine made_rat hx hd ne (by decide) (by show 1 < 2 ^ 9000; exact Nat.one_lt_two_pow (by decide)) fun p H' kp _ r => k p H' kp ?_
      have e : Rat.divInt i 1 = (i : Rat) := by
        have := Rat.num_divInt_den (i : Rat)
        rw [Rat.num_intCast, Rat.den_intCast] at this
        exact this
      rw [← e]
      exact r
    · exact ⟨_, rfl, .ref p, .ref (aR K), .ref (aR K), _, true, rfl, .own _, hp.ty T, (by unfold PySem.W.kitOne; rw [if_pos (beq_self_eq_true _)]), true, rfl, iteT ⟨_, rfl, k p _ (fun _ _ e => e) hp⟩⟩
end
end K18
set_option maxHeartbeats 4000000
namespace K18
open PySem PySem.Spec PyProof.Rows L2 GL
theorem fnR_of {P : Program} {w : World} {K : PySem.W.Frag} {mg : Str → Option Value} {base : Heap} {CX : CXT} {k : Nat} {f : Addr} {fd : FuncData} {ps : List Str} {sp : Sp} (F : FnOk P w K mg base CX k f fd ps sp) (hb : Binds K fd ps []) : FnR P w K mg base CX k f sp := by
  intro A outer s H us vs Q E hr e0 rv hsp
  have inS : K.In s.heap := e0.mod.kin.keeps fun b o e => (e0.bs b o e).1
  have hl : us.length = ps.length := rv.length.symm.trans (F.len _ _ _ _ hsp)
  have b := hb s us inS (by rw [List.append_nil]; exact hl)
  rw [List.append_nil] at b
  exact F.run A outer s H ⟨us, []⟩ us vs Q E hr e0 b rv hsp
/-- how long the parts are -/
def Sz (n : Nat) (q : Rat) : Prop := q.num.natAbs < 2 ^ n ∧ q.den < 2 ^ n
theorem Sz.mono {n m : Nat} {q : Rat} (h : Sz n q) (k : n ≤ m) : Sz m q := ⟨Nat.lt_of_lt_of_le h.1 (Nat.pow_le_pow_right (by decide) k), Nat.lt_of_lt_of_le h.2 (Nat.pow_le_pow_right (by decide) k)⟩
theorem Sz.den {n : Nat} {q : Rat} (h : Sz n q) : (q.den : Int).natAbs < 2 ^ n := by rw [Int.natAbs_natCast]; exact h.2
def rBelow (q r : Rat) : Bool := decide (q.num * (r.den : Int) < r.num * (q.den : Int))
def rOver (q r : Rat) : Rat := Rat.divInt (q.num * (r.den : Int)) ((q.den : Int) * r.num)
def rAdd (q r : Rat) : Rat := Rat.divInt (q.num * (r.den : Int) + r.num * (q.den : Int)) ((q.den : Int) * (r.den : Int))
def rSub (q r : Rat) : Rat := Rat.divInt (q.num * (r.den : Int) - r.num * (q.den : Int)) ((q.den : Int) * (r.den : Int))
def rMul (q r : Rat) : Rat := Rat.divInt (q.num * r.num) ((q.den : Int) * (r.den : Int))
def rNeg (q : Rat) : Rat := Rat.divInt (-q.num) (q.den : Int)
theorem mul_lt {i j : Int} {n m : Nat} (h : i.natAbs < 2 ^ n) (k : j.natAbs < 2 ^ m) : (i * j).natAbs < 2 ^ (n + m) := by
  rw [Int.natAbs_mul, Nat.pow_add]
  exact Nat.mul_lt_mul'' h k
structure RH (P : Program) (w : World) (K : PySem.W.Frag) (mg : Str → Option Value) (base : Heap) : Prop where
  G : RG P w K mg base
  of : ∃ mc p f, ClX.CRead K (aR K) mc ∧ ClX.CMet K (aR K) mc "of" p f ∧ FnR P w K mg base CX0 4 f (spOf K)
section
variable {P : Program} {w : World} {K : PySem.W.Frag} {mg : Str → Option Value} {base : Heap}
/-! ### is_below -/
def spBelow (K : PySem.W.Frag) : Sp := fun vs H Q _ => ∃ (a : Addr) (y : V) (q r : Rat), vs = [.ref a, y] ∧ RatAt K H a q ∧ NumAt K H y r ∧ Sz 100000 q ∧ Sz 100000 r ∧ ∀ H', Same H H' → Q (.bl (rBelow q r)) H'
theorem scBelow : FnScope ["self", "other", "right"] ["self", "other"] (defScope (sRatio 7)) := ⟨rfl, rfl, rfl, by decide +kernel, rfl, by decide +kernel, by decide +kernel⟩
theorem ok_below {f : Addr} {fd : FuncData} (F : FunD K "is_below" "Ratio.is_below" (defArgs (sRatio 7)) (defBody (sRatio 7)) (defScope (sRatio 7)) [] [] f fd) (R : RH P w K mg base) : FnOk P w K mg base CX0 5 f fd ["self", "other"] (spBelow K) := by
  obtain ⟨mc, pp, fo, cr, cm, GO⟩ := R.of
  have T := R.G.T
  refine F.ok scBelow (fun vs H Q E h => ?_) (fun cdv A outer s H vs Q E hr h => ?_)
  · obtain ⟨a, y, q, r, rfl, _⟩ := h
    rfl
  · obtain ⟨a, y, q, r, rfl, ha, hy, sq, sr, k⟩ := h
    refine ⟨_, pss_cons (ps_set (i := 2) scBelow.nd rfl (Or.inl rfl) (ClX.pe_cmeth (pe_glob (v := .ref (aR K)) rfl T.gR rfl) cr cm GO hr pass0 (pa_cons (pv 1) pa_nil)))
      (pss_one (ps_ret (pe_cmpR op_lt (pe_op op_mulW (pe_fld (pv 0) rfl) (pe_fld (pv 2) rfl)) (pe_op op_mulW (pe_fld (pv 2) rfl) (pe_fld (pv 0) rfl)) (nomark _)))), ?_⟩
    refine ⟨rfl, _, rfl, y, r, rfl, hy, fun p H' kp hp => ?_⟩
    obtain ⟨dx, ea⟩ := ha.same kp
    obtain ⟨dy, ep⟩ := hp
    refine ⟨_, rfl, a, _, dx, _, _, rfl, ea, T.cl, T.nT, rfl, _, rfl, p, _, dy, _, _, rfl, ep, T.cl, T.nB, rfl, _, _, rfl, rfl, wide_mul sq.1 sr.den (by decide) (by decide) (by decide), ?_⟩
    refine ⟨_, rfl, p, _, dy, _, _, rfl, ep, T.cl, T.nT, rfl, _, rfl, a, _, dx, _, _, rfl, ea, T.cl, T.nB, rfl, _, _, rfl, rfl, wide_mul sr.1 sq.den (by decide) (by decide) (by decide), ?_⟩
    exact ⟨_, _, rfl, rfl, k H' kp⟩
end
end K18
set_option maxHeartbeats 4000000
namespace K18
open PySem PySem.Spec PyProof.Rows L2 GL
theorem divInt_sz {t b : Int} {n : Nat} (hb : b ≠ 0) (ht : t.natAbs < 2 ^ n) (hz : b.natAbs < 2 ^ n) : Sz n (Rat.divInt t b) := by
  constructor
  · rw [Rat.num_divInt]
    refine Nat.lt_of_le_of_lt ?_ ht
    rw [Int.natAbs_ediv_of_dvd]
    · refine Nat.le_trans (Nat.div_le_self _ _) ?_
      rw [Int.natAbs_mul, Int.natAbs_sign_of_ne_zero hb, Nat.one_mul]
      exact Nat.le_refl _
    · exact Int.dvd_mul_of_dvd_right (Int.gcd_dvd_right _ _)
  · rw [Rat.den_divInt, if_neg hb]
    exact Nat.lt_of_le_of_lt (Nat.div_le_self _ _) hz
theorem den_ne (q : Rat) : (q.den : Int) ≠ 0 := by
  have := q.den_nz
  omega
section
variable {P : Program} {w : World} {K : PySem.W.Frag} {mg : Str → Option Value} {base : Heap}
/-! ### over -/
def spBin (K : PySem.W.Frag) (g : Rat → Rat → Rat) (C : Rat → Rat → Prop) : Sp := fun vs H Q _ => ∃ (a : Addr) (y : V) (q r : Rat), vs = [.ref a, y] ∧ RatAt K H a q ∧ NumAt K H y r ∧ Sz 4000 q ∧ Sz 4000 r ∧ C q r ∧ ∀ p H', Same H H' → RatAt K H' p (g q r) → Q (.ref p) H'
theorem scOver : FnScope ["self", "other", "right"] ["self", "other"] (defScope (sRatio 8)) := ⟨rfl, rfl, rfl, by decide +kernel, rfl, by decide +kernel, by decide +kernel⟩
theorem ok_over {f : Addr} {fd : FuncData} (F : FunD K "over" "Ratio.over" (defArgs (sRatio 8)) (defBody (sRatio 8)) (defScope (sRatio 8)) [] [] f fd) (R : RH P w K mg base) : FnOk P w K mg base CX0 5 f fd ["self", "other"] (spBin K rOver fun _ r => r.num ≠ 0) := by
  obtain ⟨mc, pp, fo, cr, cm, GO⟩ := R.of
  obtain ⟨fR, fdR, d, MR, GR, vd, _, bR⟩ := R.G.mR
  have T := R.G.T
  refine F.ok scOver (fun vs H Q E h => ?_) (fun cdv A outer s H vs Q E hr h => ?_)
  · obtain ⟨a, y, q, r, rfl, _⟩ := h
    rfl
  · obtain ⟨a, y, q, r, rfl, ha, hy, sq, sr, r0, k⟩ := h
    refine ⟨_, pss_cons (ps_set (i := 2) scOver.nd rfl (Or.inl rfl) (ClX.pe_cmeth (pe_glob (v := .ref (aR K)) rfl T.gR rfl) cr cm GO hr pass0 (pa_cons (pv 1) pa_nil)))
      (pss_cons (ps_if (pt_cmpR op_eq (pe_fld (pv 2) rfl) pe_int (nomark _)) (pss_one ps_never) pss_nil)
      (pss_one (ps_ret (pe_make MR GR (hr.mono (by decide)) rfl T.gR bR .nil pass0 (pa_cons (pe_op op_mulW (pe_fld (pv 0) rfl) (pe_fld (pv 2) rfl)) (pa_cons (pe_op op_mulW (pe_fld (pv 0) rfl) (pe_fld (pv 2) rfl)) pa_nil)))))), ?_⟩
    refine ⟨rfl, _, rfl, y, r, rfl, hy, fun p H' kp hp => ?_⟩
    obtain ⟨dx, ea⟩ := ha.same kp
    obtain ⟨dy, ep⟩ := hp
    refine ⟨_, rfl, p, _, dy, _, _, rfl, ep, T.cl, T.nT, rfl, rfl, _, rfl, ?_⟩
    have e0 : decide (V.int r.num = V.int 0) = false := decide_eq_false fun z => r0 (by injection z)
    dsimp only
    rw [e0]
    refine iteF ?_
    refine ⟨_, rfl, a, _, dx, _, _, rfl, ea, T.cl, T.nT, rfl, _, rfl, p, _, dy, _, _, rfl, ep, T.cl, T.nB, rfl, _, _, rfl, rfl, wide_mul sq.1 sr.den (by decide) (by decide) (by decide), ?_⟩
    refine ⟨_, rfl, a, _, dx, _, _, rfl, ea, T.cl, T.nB, rfl, _, rfl, p, _, dy, _, _, rfl, ep, T.cl, T.nT, rfl, _, _, rfl, rfl, wide_mul sq.den sr.1 (by decide) (by decide) (by decide), ?_⟩
    intro x dz hx hd ne
    have b0 : (q.den : Int) * r.num ≠ 0 := Int.mul_ne_zero (den_ne q) r0
    exact made_rat hx hd ne b0 (Nat.lt_of_lt_of_le (mul_lt sq.den sr.1) (Nat.pow_le_pow_right (by decide) (by decide))) fun p2 H2 kp2 _ hr2 => k p2 H2 (kp.trans kp2) hr2
/-! ### __add__ -/
theorem scAdd : FnScope ["self", "other", "right"] ["self", "other"] (defScope (sRatio 9)) := ⟨rfl, rfl, rfl, by decide +kernel, rfl, by decide +kernel, by decide +kernel⟩
theorem ok_rAdd {f : Addr} {fd : FuncData} (F : FunD K "__add__" "Ratio.__add__" (defArgs (sRatio 9)) (defBody (sRatio 9)) (defScope (sRatio 9)) [] [] f fd) (R : RH P w K mg base) : FnOk P w K mg base CX0 5 f fd ["self", "other"] (spBin K rAdd fun _ _ => True) := by
  obtain ⟨mc, pp, fo, cr, cm, GO⟩ := R.of
  obtain ⟨fR, fdR, d, MR, GR, vd, _, bR⟩ := R.G.mR
  have T := R.G.T
  refine F.ok scAdd (fun vs H Q E h => ?_) (fun cdv A outer s H vs Q E hr h => ?_)
  · obtain ⟨a, y, q, r, rfl, _⟩ := h
    rfl
  · obtain ⟨a, y, q, r, rfl, ha, hy, sq, sr, _, k⟩ := h
    refine ⟨_, pss_cons (ps_set (i := 2) scAdd.nd rfl (Or.inl rfl) (ClX.pe_cmeth (pe_glob (v := .ref (aR K)) rfl T.gR rfl) cr cm GO hr pass0 (pa_cons (pv 1) pa_nil)))
      (pss_one (ps_ret (pe_make MR GR (hr.mono (by decide)) rfl T.gR bR .nil pass0 (pa_cons (pe_op op_add (pe_op op_mulW (pe_fld (pv 0) rfl) (pe_fld (pv 2) rfl)) (pe_op op_mulW (pe_fld (pv 2) rfl) (pe_fld (pv 0) rfl))) (pa_cons (pe_op op_mulW (pe_fld (pv 0) rfl) (pe_fld (pv 2) rfl)) pa_nil))))), ?_⟩
    refine ⟨rfl, _, rfl, y, r, rfl, hy, fun p H' kp hp => ?_⟩
    obtain ⟨dx, ea⟩ := ha.same kp
    obtain ⟨dy, ep⟩ := hp
    refine ⟨_, rfl, a, _, dx, _, _, rfl, ea, T.cl, T.nT, rfl, _, rfl, p, _, dy, _, _, rfl, ep, T.cl, T.nB, rfl, _, _, rfl, rfl, wide_mul sq.1 sr.den (by decide) (by decide) (by decide), ?_⟩
    refine ⟨_, rfl, p, _, dy, _, _, rfl, ep, T.cl, T.nT, rfl, _, rfl, a, _, dx, _, _, rfl, ea, T.cl, T.nB, rfl, _, _, rfl, rfl, wide_mul sr.1 sq.den (by decide) (by decide) (by decide), ?_⟩
    refine ⟨_, _, rfl, rfl, ?_⟩
    refine ⟨_, rfl, a, _, dx, _, _, rfl, ea, T.cl, T.nB, rfl, _, rfl, p, _, dy, _, _, rfl, ep, T.cl, T.nB, rfl, _, _, rfl, rfl, wide_mul sq.den sr.den (by decide) (by decide) (by decide), ?_⟩
    intro x dz hx hd ne
    have b0 : (q.den : Int) * (r.den : Int) ≠ 0 := Int.mul_ne_zero (den_ne q) (den_ne r)
    exact made_rat hx hd ne b0 (Nat.lt_of_lt_of_le (mul_lt sq.den sr.den) (Nat.pow_le_pow_right (by decide) (by decide))) fun p2 H2 kp2 _ hr2 => k p2 H2 (kp.trans kp2) hr2
/-! ### __sub__ -/
theorem scSub : FnScope ["self", "other", "right"] ["self", "other"] (defScope (sRatio 10)) := ⟨rfl, rfl, rfl, by decide +kernel, rfl, by decide +kernel, by decide +kernel⟩
theorem ok_rSub {f : Addr} {fd : FuncData} (F : FunD K "__sub__" "Ratio.__sub__" (defArgs (sRatio 10)) (defBody (sRatio 10)) (defScope (sRatio 10)) [] [] f fd) (R : RH P w K mg base) : FnOk P w K mg base CX0 5 f fd ["self", "other"] (spBin K rSub fun _ _ => True) := by
  obtain ⟨mc, pp, fo, cr, cm, GO⟩ := R.of
  obtain ⟨fR, fdR, d, MR, GR, vd, _, bR⟩ := R.G.mR
  have T := R.G.T
  refine F.ok scSub (fun vs H Q E h => ?_) (fun cdv A outer s H vs Q E hr h => ?_)
  · obtain ⟨a, y, q, r, rfl, _⟩ := h
    rfl
  · obtain ⟨a, y, q, r, rfl, ha, hy, sq, sr, _, k⟩ := h
    refine ⟨_, pss_cons (ps_set (i := 2) scSub.nd rfl (Or.inl rfl) (ClX.pe_cmeth (pe_glob (v := .ref (aR K)) rfl T.gR rfl) cr cm GO hr pass0 (pa_cons (pv 1) pa_nil)))
      (pss_one (ps_ret (pe_make MR GR (hr.mono (by decide)) rfl T.gR bR .nil pass0 (pa_cons (pe_op op_sub (pe_op op_mulW (pe_fld (pv 0) rfl) (pe_fld (pv 2) rfl)) (pe_op op_mulW (pe_fld (pv 2) rfl) (pe_fld (pv 0) rfl))) (pa_cons (pe_op op_mulW (pe_fld (pv 0) rfl) (pe_fld (pv 2) rfl)) pa_nil))))), ?_⟩
    refine ⟨rfl, _, rfl, y, r, rfl, hy, fun p H' kp hp => ?_⟩
    obtain ⟨dx, ea⟩ := ha.same kp
    obtain ⟨dy, ep⟩ := hp
    refine ⟨_, rfl, a, _, dx, _, _, rfl, ea, T.cl, T.nT, rfl, _, rfl, p, _, dy, _, _, rfl, ep, T.cl, T.nB, rfl, _, _, rfl, rfl, wide_mul sq.1 sr.den (by decide) (by decide) (by decide), ?_⟩
    refine ⟨_, rfl, p, _, dy, _, _, rfl, ep, T.cl, T.nT, rfl, _, rfl, a, _, dx, _, _, rfl, ea, T.cl, T.nB, rfl, _, _, rfl, rfl, wide_mul sr.1 sq.den (by decide) (by decide) (by decide), ?_⟩
    refine ⟨_, _, rfl, rfl, ?_⟩
    refine ⟨_, rfl, a, _, dx, _, _, rfl, ea, T.cl, T.nB, rfl, _, rfl, p, _, dy, _, _, rfl, ep, T.cl, T.nB, rfl, _, _, rfl, rfl, wide_mul sq.den sr.den (by decide) (by decide) (by decide), ?_⟩
    intro x dz hx hd ne
    have b0 : (q.den : Int) * (r.den : Int) ≠ 0 := Int.mul_ne_zero (den_ne q) (den_ne r)
    exact made_rat hx hd ne b0 (Nat.lt_of_lt_of_le (mul_lt sq.den sr.den) (Nat.pow_le_pow_right (by decide) (by decide))) fun p2 H2 kp2 _ hr2 => k p2 H2 (kp.trans kp2) hr2
/-! ### __mul__ -/
theorem scMul : FnScope ["self", "other", "right"] ["self", "other"] (defScope (sRatio 11)) := ⟨rfl, rfl, rfl, by decide +kernel, rfl, by decide +kernel, by decide +kernel⟩
theorem ok_rMul {f : Addr} {fd : FuncData} (F : FunD K "__mul__" "Ratio.__mul__" (defArgs (sRatio 11)) (defBody (sRatio 11)) (defScope (sRatio 11)) [] [] f fd) (R : RH P w K mg base) : FnOk P w K mg base CX0 5 f fd ["self", "other"] (spBin K rMul fun _ _ => True) := by
  obtain ⟨mc, pp, fo, cr, cm, GO⟩ := R.of
  obtain ⟨fR, fdR, d, MR, GR, vd, _, bR⟩ := R.G.mR
  have T := R.G.T
  refine F.ok scMul (fun vs H Q E h => ?_) (fun cdv A outer s H vs Q E hr h => ?_)
  · obtain ⟨a, y, q, r, rfl, _⟩ := h
    rfl
  · obtain ⟨a, y, q, r, rfl, ha, hy, sq, sr, _, k⟩ := h
    refine ⟨_, pss_cons (ps_set (i := 2) scMul.nd rfl (Or.inl rfl) (ClX.pe_cmeth (pe_glob (v := .ref (aR K)) rfl T.gR rfl) cr cm GO hr pass0 (pa_cons (pv 1) pa_nil)))
      (pss_one (ps_ret (pe_make MR GR (hr.mono (by decide)) rfl T.gR bR .nil pass0 (pa_cons (pe_op op_mulW (pe_fld (pv 0) rfl) (pe_fld (pv 2) rfl)) (pa_cons (pe_op op_mulW (pe_fld (pv 0) rfl) (pe_fld (pv 2) rfl)) pa_nil))))), ?_⟩
    refine ⟨rfl, _, rfl, y, r, rfl, hy, fun p H' kp hp => ?_⟩
    obtain ⟨dx, ea⟩ := ha.same kp
    obtain ⟨dy, ep⟩ := hp
    refine ⟨_, rfl, a, _, dx, _, _, rfl, ea, T.cl, T.nT, rfl, _, rfl, p, _, dy, _, _, rfl, ep, T.cl, T.nT, rfl, _, _, rfl, rfl, wide_mul sq.1 sr.1 (by decide) (by decide) (by decide), ?_⟩
    refine ⟨_, rfl, a, _, dx, _, _, rfl, ea, T.cl, T.nB, rfl, _, rfl, p, _, dy, _, _, rfl, ep, T.cl, T.nB, rfl, _, _, rfl, rfl, wide_mul sq.den sr.den (by decide) (by decide) (by decide), ?_⟩
    intro x dz hx hd ne
    have b0 : (q.den : Int) * (r.den : Int) ≠ 0 := Int.mul_ne_zero (den_ne q) (den_ne r)
    exact made_rat hx hd ne b0 (Nat.lt_of_lt_of_le (mul_lt sq.den sr.den) (Nat.pow_le_pow_right (by decide) (by decide))) fun p2 H2 kp2 _ hr2 => k p2 H2 (kp.trans kp2) hr2
end
end K18
set_option maxHeartbeats 4000000
namespace K18
open PySem PySem.Spec PyProof.Rows L2 GL
section
variable {P : Program} {w : World} {K : PySem.W.Frag} {mg : Str → Option Value} {base : Heap}
/-! ### __neg__ -/
def spNeg (K : PySem.W.Frag) : Sp := fun vs H Q _ => ∃ (a : Addr) (q : Rat), vs = [.ref a] ∧ RatAt K H a q ∧ Sz 4000 q ∧ ∀ p H', Same H H' → RatAt K H' p (rNeg q) → Q (.ref p) H'
theorem scNeg : FnScope ["self"] ["self"] (defScope (sRatio 12)) := ⟨rfl, rfl, rfl, by decide +kernel, rfl, by decide +kernel, by decide +kernel⟩
theorem ok_rNeg {f : Addr} {fd : FuncData} (F : FunD K "__neg__" "Ratio.__neg__" (defArgs (sRatio 12)) (defBody (sRatio 12)) (defScope (sRatio 12)) [] [] f fd) (G : RG P w K mg base) : FnOk P w K mg base CX0 4 f fd ["self"] (spNeg K) := by
  obtain ⟨fR, fdR, d, MR, GR, vd, _, bR⟩ := G.mR
  have T := G.T
  refine F.ok scNeg (fun vs H Q E h => ?_) (fun cdv A outer s H vs Q E hr h => ?_)
  · obtain ⟨a, q, rfl, _⟩ := h
    rfl
  · obtain ⟨a, q, rfl, ⟨dx, ea⟩, sq, k⟩ := h
    refine ⟨_, pss_one (ps_ret (pe_make MR GR hr rfl T.gR bR .nil pass0 (pa_cons (pe_un un_neg (pe_fld (pv 0) rfl)) (pa_cons (pe_fld (pv 0) rfl) pa_nil)))), ?_⟩
    refine ⟨_, rfl, a, _, dx, _, _, rfl, ea, T.cl, T.nT, rfl, _, rfl, _, rfl, a, _, dx, _, _, rfl, ea, T.cl, T.nB, rfl, ?_⟩
    intro x dz hx hd ne
    exact made_rat hx hd ne (den_ne q) (Nat.lt_of_lt_of_le sq.den (Nat.pow_le_pow_right (by decide) (by decide))) fun p2 H2 kp2 _ hr2 => k p2 H2 kp2 hr2
/-! ### __eq__ -/
def spREq (K : PySem.W.Frag) : Sp := fun vs H Q _ => ∃ (a : Addr) (y : V) (q : Rat), vs = [.ref a, y] ∧ RatAt K H a q ∧
  ((∃ b r, y = .ref b ∧ RatAt K H b r ∧ Q (.bl (decide (q = r))) H) ∨ ∃ t, TyX K H y t ∧ PySem.W.kitOne K t (.ref (aR K)) = some false ∧ Q (.bl false) H)
theorem scREq : FnScope ["self", "other"] ["self", "other"] (defScope (sRatio 13)) := ⟨rfl, rfl, rfl, by decide +kernel, rfl, by decide +kernel, by decide +kernel⟩
theorem ok_rEq {f : Addr} {fd : FuncData} (F : FunD K "__eq__" "Ratio.__eq__" (defArgs (sRatio 13)) (defBody (sRatio 13)) (defScope (sRatio 13)) [] [] f fd) (T : RF K mg) : FnOk P w K mg base CX0 1 f fd ["self", "other"] (spREq K) := by
  refine F.ok scREq (fun vs H Q E h => ?_) (fun cdv A outer s H vs Q E hr h => ?_)
  · obtain ⟨a, y, q, rfl, _⟩ := h
    rfl
  · obtain ⟨a, y, q, rfl, ha, h⟩ := h
    refine ⟨_, pss_one (ps_ret (pe_and (pe_callB call_isi (by rfl) T.isi (by decide +kernel) (pa_cons (pv 1) (pa_cons (pe_glob (v := .ref (aR K)) rfl T.gR rfl) pa_nil)))
      (pe_and (pe_cmpR op_eq (pe_fld (pv 0) rfl) (pe_fld (pv 1) rfl) (nomark _)) (pe_one (pe_cmpR op_eq (pe_fld (pv 0) rfl) (pe_fld (pv 1) rfl) (nomark _)))))), ?_⟩
    rcases h with ⟨b, r, rfl, hb, k⟩ | ⟨t, ty, kt, k⟩
    · refine ⟨_, rfl, .ref b, .ref (aR K), .ref (aR K), _, true, rfl, .own _, hb.ty T, (by unfold PySem.W.kitOne; rw [if_pos (beq_self_eq_true _)]), true, rfl, iteT ?_⟩
      obtain ⟨dx, ea⟩ := ha
      obtain ⟨dy, eb⟩ := hb
      refine ⟨_, rfl, a, _, dx, _, _, rfl, ea, T.cl, T.nT, rfl, _, rfl, b, _, dy, _, _, rfl, eb, T.cl, T.nT, rfl, rfl, _, rfl, ?_⟩
      refine ite2 (fun c => ?_) (fun c => ?_)
      · have c1 : q.num = r.num := by
          have := of_decide_eq_true c
          injection this
        refine ⟨_, rfl, a, _, dx, _, _, rfl, ea, T.cl, T.nB, rfl, _, rfl, b, _, dy, _, _, rfl, eb, T.cl, T.nB, rfl, rfl, ?_⟩
        have e : decide (V.int (q.den : Int) = V.int (r.den : Int)) = decide (q = r) := by
          rw [decide_eq_decide]
          constructor
          · intro z
            injection z with z
            exact Rat.ext c1 (by omega)
          · rintro rfl
            rfl
        rw [e]
        exact k
      · have e : decide (q = r) = false := by
          refine decide_eq_false ?_
          rintro rfl
          exact c (decide_eq_true rfl)
        rw [e] at k
        exact k
    · exact ⟨_, rfl, y, .ref (aR K), t, _, false, rfl, .own _, ty, kt, false, rfl, iteF k⟩
/-! ### sign -/
end
end K18
set_option maxHeartbeats 4000000
namespace K18
open PySem PySem.Spec PyProof.Rows L2 GL
abbrev sIsCut : Stmt := tp 28
abbrev sRatioCut : Stmt := tp 29
abbrev sIsAbove : Stmt := tp 30
/-- more parts of Ratio -/
structure RI (P : Program) (w : World) (K : PySem.W.Frag) (mg : Str → Option Value) (base : Heap) : Prop where
  R : RH P w K mg base
  isNum : ∃ f fd, FnOk P w K mg base CX0 2 f fd ["value"] (spIsNum K) ∧ mg "is_number" = some (.ref f) ∧ Binds K fd ["value"] [] ∧ PySem.W.keepIn K (.ref f) = true
  below : ∃ f fd, Meth K (aR K) "is_below" f ∧ FnOk P w K mg base CX0 5 f fd ["self", "other"] (spBelow K) ∧ Binds K fd ["self", "other"] []
  eq : ∃ f, OwnEq K (aR K) f ∧ FnR P w K mg base CX0 1 f (spREq K)
  len : mg "len" = none
  tuple : mg "tuple" = none
/-- a cut: a NUMBER, and whether it is just above -/
def CutAt (K : PySem.W.Frag) (H : Hp) (x : V) (q : Rat) (b : Bool) : Prop := ∃ c v, x = .ref c ∧ H c = some (.tup [v, .bl b]) ∧ NumAt K H v q
theorem CutAt.same {K : PySem.W.Frag} {H H' : Hp} {x : V} {q : Rat} {b : Bool} (h : CutAt K H x q b) (k : Same H H') : CutAt K H' x q b := by
  obtain ⟨c, v, e, hc, hv⟩ := h
  exact ⟨c, v, e, k _ _ hc, hv.same k⟩
section
variable {P : Program} {w : World} {K : PySem.W.Frag} {mg : Str → Option Value} {base : Heap}
/-! ### is_cut -/
def spIsCut (K : PySem.W.Frag) : Sp := fun vs H Q _ => ∃ (x : V) (q : Rat) (b : Bool), vs = [x] ∧ CutAt K H x q b ∧ Q (.bl true) H
theorem scIsCut : FnScope ["value"] ["value"] (defScope sIsCut) := ⟨rfl, rfl, rfl, by decide +kernel, rfl, by decide +kernel, by decide +kernel⟩
theorem ok_isCut {f : Addr} {fd : FuncData} (F : Fun K "is_cut" "is_cut" sIsCut f fd) (I : RI P w K mg base) : FnOk P w K mg base CX0 3 f fd ["value"] (spIsCut K) := by
  obtain ⟨fN, fdN, GN, gN, bN, kN⟩ := I.isNum
  have T := I.R.G.T
  refine F.ok scIsCut (fun vs H Q E h => ?_) (fun cdv A outer s H vs Q E hr h => ?_)
  · obtain ⟨x, q, b, rfl, _⟩ := h
    rfl
  · obtain ⟨x, q, b, rfl, ⟨c, v, rfl, hc, hv⟩, k⟩ := h
    refine ⟨_, pss_one (ps_ret (pe_and (pe_callB call_isi (by rfl) T.isi (by decide +kernel) (pa_cons (pv 0) (pa_cons (pe_bltn (v := .ty "tuple") (by rfl) I.tuple (by decide +kernel) rfl) pa_nil)))
      (pe_and (pe_cmpR op_eq (pe_callB call_len_seq (by rfl) I.len PySem.boot_len (pa_cons (pv 0) pa_nil)) pe_int (nomark _))
      (pe_and (pe_call GN hr rfl gN kN bN .nil pass0 (pa_cons (pe_ix ix_tup (pv 0) pe_int (fun _ _ => rfl)) pa_nil))
      (pe_one (pe_callB call_isi (by rfl) T.isi (by decide +kernel) (pa_cons (pe_ix ix_tup (pv 0) pe_int (fun _ _ => rfl)) (pa_cons (pe_bltn (v := .ty "bool") (by rfl) T.bool (by decide +kernel) rfl) pa_nil)))))))), ?_⟩
    refine ⟨_, rfl, .ref c, .ty "tuple", .type "tuple", _, true, rfl, .ty _, .base (.tup hc), kit_ty (by decide +kernel), true, rfl, iteT ?_⟩
    refine ⟨_, rfl, c, _, rfl, .inr (SqT.of hc), rfl, _, rfl, iteT ?_⟩
    refine ⟨_, rfl, c, _, _, v, rfl, rfl, SqT.of hc, rfl, v, q, rfl, hv, true, rfl, iteT ?_⟩
    exact ⟨_, rfl, c, _, _, .bl b, rfl, rfl, SqT.of hc, rfl, .bl b, .ty "bool", .type "bool", _, true, rfl, .ty _, .base (.bl b), kit_ty (by decide +kernel), k⟩
/-! ### ratio_cut -/
def spRatioCut (K : PySem.W.Frag) : Sp := fun vs H Q _ => ∃ (x : V) (q : Rat) (b : Bool), vs = [x] ∧ CutAt K H x q b ∧ ∀ c p H', Same H H' → H' c = some (.tup [.ref p, .bl b]) → RatAt K H' p q → Q (.ref c) H'
theorem scRatioCut : FnScope ["cut"] ["cut"] (defScope sRatioCut) := ⟨rfl, rfl, rfl, by decide +kernel, rfl, by decide +kernel, by decide +kernel⟩
theorem ok_ratioCut {f fC : Addr} {fd fdC : FuncData} (F : Fun K "ratio_cut" "ratio_cut" sRatioCut f fd) (I : RI P w K mg base) (FC : Fun K "is_cut" "is_cut" sIsCut fC fdC) (gC : mg "is_cut" = some (.ref fC)) (bC : Binds K fdC ["value"] []) : FnOk P w K mg base CX0 5 f fd ["cut"] (spRatioCut K) := by
  have GC : FnOk P w K mg base CX0 3 fC fdC ["value"] (spIsCut K) := ok_isCut FC I
  obtain ⟨mc, pp, fo, cr, cm, GO⟩ := I.R.of
  have T := I.R.G.T
  refine F.ok scRatioCut (fun vs H Q E h => ?_) (fun cdv A outer s H vs Q E hr h => ?_)
  · obtain ⟨x, q, b, rfl, _⟩ := h
    rfl
  · obtain ⟨x, q, b, rfl, hx, k⟩ := h
    refine ⟨_, pss_cons (ps_if (pt_not (pt_val (pe_call GC (hr.mono (by decide)) rfl gC FC.kp bC .nil pass0 (pa_cons (pv 0) pa_nil)))) (pss_one ps_never) pss_nil)
      (pss_one (ps_ret (pe_tup (pa_cons (ClX.pe_cmeth (pe_glob (v := .ref (aR K)) rfl T.gR rfl) cr cm GO hr pass0 (pa_cons (pe_ix ix_tup (pv 0) pe_int (fun _ _ => rfl)) pa_nil)) (pa_cons (pe_ix ix_tup (pv 0) pe_int (fun _ _ => rfl)) pa_nil))))), ?_⟩
    refine ⟨_, rfl, x, q, b, rfl, hx, true, rfl, iteF ?_⟩
    obtain ⟨c, v, rfl, hc, hv⟩ := hx
    refine ⟨rfl, _, rfl, c, _, _, v, rfl, rfl, SqT.of hc, rfl, v, q, rfl, hv, fun p H' kp hp => ?_⟩
    refine ⟨_, rfl, c, _, _, .bl b, rfl, rfl, SqT.of (kp _ _ hc), rfl, (by show 2 ≤ sizeLine; decide), fun t ht => ?_⟩
    have up : Same H' (upd H' t (.tup [.ref p, .bl b])) := fun b o e => by rw [upd_ne (ne_of_none e ht)]; exact e
    exact k t p _ (kp.trans up) upd_same (hp.same up)
end
end K18
set_option maxHeartbeats 4000000
namespace K18
open PySem PySem.Spec PyProof.Rows L2 GL
def cAbove (x q : Rat) (b : Bool) : Bool := if b = true then rBelow q x else !rBelow x q
/-- a cut whose number is a Ratio -/
def CutR (K : PySem.W.Frag) (H : Hp) (c : Addr) (q : Rat) (b : Bool) : Prop := ∃ p, H c = some (.tup [.ref p, .bl b]) ∧ RatAt K H p q
theorem CutR.same {K : PySem.W.Frag} {H H' : Hp} {c : Addr} {q : Rat} {b : Bool} (h : CutR K H c q b) (k : Same H H') : CutR K H' c q b := by
  obtain ⟨p, e, hp⟩ := h
  exact ⟨p, k _ _ e, hp.same k⟩
theorem CutR.cut {K : PySem.W.Frag} {H : Hp} {c : Addr} {q : Rat} {b : Bool} (h : CutR K H c q b) : CutAt K H (.ref c) q b := by
  obtain ⟨p, e, hp⟩ := h
  exact ⟨c, _, rfl, e, .inr ⟨p, rfl, hp⟩⟩
/-- what the functions on cuts call -/
structure RJ (P : Program) (w : World) (K : PySem.W.Frag) (mg : Str → Option Value) (base : Heap) : Prop where
  I : RI P w K mg base
  rc : ∃ f fd, FnOk P w K mg base CX0 5 f fd ["cut"] (spRatioCut K) ∧ mg "ratio_cut" = some (.ref f) ∧ Binds K fd ["cut"] [] ∧ PySem.W.keepIn K (.ref f) = true
section
variable {P : Program} {w : World} {K : PySem.W.Frag} {mg : Str → Option Value} {base : Heap}
/-! ### is_above -/
def spIsAbove (K : PySem.W.Frag) : Sp := fun vs H Q _ => ∃ (y x : V) (r q : Rat) (b : Bool), vs = [y, x] ∧ NumAt K H y r ∧ CutAt K H x q b ∧ Sz 100000 q ∧ Sz 100000 r ∧ ∀ H', Same H H' → Q (.bl (cAbove r q b)) H'
theorem scIsAbove : FnScope ["number", "cut", "ratio", "place", "just_above"] ["number", "cut"] (defScope sIsAbove) := ⟨rfl, rfl, rfl, by decide +kernel, rfl, by decide +kernel, by decide +kernel⟩
theorem ok_isAbove {f : Addr} {fd : FuncData} (F : Fun K "is_above" "is_above" sIsAbove f fd) (J : RJ P w K mg base) : FnOk P w K mg base CX0 6 f fd ["number", "cut"] (spIsAbove K) := by
  obtain ⟨fC, fdC, GC, gC, bC, kC⟩ := J.rc
  obtain ⟨mc, pp, fo, cr, cm, GO⟩ := J.I.R.of
  obtain ⟨fB, fdB, mB, GB, bB⟩ := J.I.below
  have T := J.I.R.G.T
  refine F.ok scIsAbove (fun vs H Q E h => ?_) (fun cdv A outer s H vs Q E hr h => ?_)
  · obtain ⟨y, x, r, q, b, rfl, _⟩ := h
    rfl
  · obtain ⟨y, x, r, q, b, rfl, hy, hx, sq, sr, k⟩ := h
    refine ⟨_, pss_cons (ps_set (i := 2) scIsAbove.nd rfl (Or.inl rfl) (ClX.pe_cmeth (pe_glob (v := .ref (aR K)) rfl T.gR rfl) cr cm GO (hr.mono (by decide)) pass0 (pa_cons (pv 0) pa_nil)))
      (pss_cons (ps_asg (pe_call GC hr rfl gC kC bC .nil pass0 (pa_cons (pv 1) pa_nil)) (pg_tup (by rfl) (pgs_cons (pg_name (i := 3) scIsAbove.nd rfl (.inl rfl)) (pgs_cons (pg_name (i := 4) scIsAbove.nd rfl (.inl rfl)) pgs_nil))))
      (pss_cons (ps_if (pt_val (pv 4)) (pss_one (ps_ret (pe_meth (pv 3) T.cl mB GB hr bB .nil pass0 (pa_cons (pv 2) pa_nil)))) pss_nil)
      (pss_one (ps_ret (pe_not (pe_meth (pv 2) T.cl mB GB hr bB .nil pass0 (pa_cons (pv 3) pa_nil))))))), ?_⟩
    refine ⟨rfl, _, rfl, y, r, rfl, hy, fun p H1 k1 hp => ?_⟩
    refine ⟨_, rfl, x, q, b, rfl, hx.same k1, fun c z H2 k2 hc hz => ?_⟩
    have hp2 := hp.same k2
    have k12 := k1.trans k2
    refine ⟨c, _, rfl, SqT.of hc, rfl, _, _, rfl, _, _, rfl, rfl, ?_⟩
    refine ⟨_, rfl, _, rfl, ?_⟩
    obtain ⟨dz, ez⟩ := hz
    obtain ⟨dp, ep⟩ := hp2
    unfold cAbove at k
    refine ite2 (fun e => ?_) (fun e => ?_)
    · rw [if_pos e] at k
      exact ⟨_, rfl, z, dz, _, rfl, ez, rfl, _, rfl, z, .ref p, q, r, rfl, ⟨dz, ez⟩, .inr ⟨p, rfl, dp, ep⟩, sq, sr, fun H3 k3 => k H3 (k12.trans k3)⟩
    · rw [if_neg e] at k
      exact ⟨_, rfl, p, dp, _, rfl, ep, rfl, _, rfl, p, .ref z, r, q, rfl, ⟨dp, ep⟩, .inr ⟨z, rfl, dz, ez⟩, sr, sq, fun H3 k3 => ⟨_, rfl, k H3 (k12.trans k3)⟩⟩
/-! ### precedes -/
/-! ### is_ahead -/
end
end K18
set_option maxHeartbeats 4000000
namespace K18
open PySem PySem.Spec PyProof.Rows L2 GL
theorem rAdd_sz {q r : Rat} {n : Nat} (h : Sz n q) (k : Sz n r) : Sz (n + n + 1) (rAdd q r) := by
  refine divInt_sz (Int.mul_ne_zero (den_ne q) (den_ne r)) ?_ (Nat.lt_of_lt_of_le (mul_lt h.den k.den) (Nat.pow_le_pow_right (by decide) (by omega)))
  have a := mul_lt h.1 k.den
  have b := mul_lt k.1 h.den
  have c := Int.natAbs_add_le (q.num * (r.den : Int)) (r.num * (q.den : Int))
  rw [Nat.pow_succ]
  omega
/-- the parts of the program that deal with cuts -/
structure RK (P : Program) (w : World) (K : PySem.W.Frag) (mg : Str → Option Value) (base : Heap) : Prop where
  J : RJ P w K mg base
  add : ∃ f, OwnBin K (aR K) .Add f ∧ FnR P w K mg base CX0 5 f (spBin K rAdd fun _ _ => True)
  over : ∃ f fd, Meth K (aR K) "over" f ∧ FnOk P w K mg base CX0 5 f fd ["self", "other"] (spBin K rOver fun _ r => r.num ≠ 0) ∧ Binds K fd ["self", "other"] []
section
variable {P : Program} {w : World} {K : PySem.W.Frag} {mg : Str → Option Value} {base : Heap}
/-! ### is_stretch -/
/-! ### is_within -/
end
end K18
set_option maxHeartbeats 4000000
namespace K18
open PySem PySem.Spec PyProof.Rows L2 GL
theorem ins_fs {C D d e : Addr} {fs gs : List (Str × V)} (h : some (HO.ins C d fs) = some (HO.ins D e gs)) : fs = gs := by
  injection h with h
  injection h
section
variable {P : Program} {w : World} {K : PySem.W.Frag} {mg : Str → Option Value} {base : Heap}
/-! ### Range.__init__ -/
end
end K18
set_option maxHeartbeats 4000000
namespace K18
open PySem PySem.Spec PyProof.Rows L2 GL
/-- the parts of Range that others call -/
structure RL (P : Program) (w : World) (K : PySem.W.Frag) (mg : Str → Option Value) (base : Heap) : Prop where
  C : RK P w K mg base
section
variable {P : Program} {w : World} {K : PySem.W.Frag} {mg : Str → Option Value} {base : Heap}
/-! ### is_inner -/
/-! ### fit -/
end
end K18
set_option maxHeartbeats 4000000
namespace K18
open PySem PySem.Spec PyProof.Rows L2 GL
abbrev sMove (j : Nat) : Stmt := inClass (tp 32) j
abbrev aM (K : PySem.W.Frag) : Addr := He.ga K "Move"
abbrev sChkDiv : Stmt := tp 33
abbrev sChkPart : Stmt := tp 34
structure MF (K : PySem.W.Frag) (mg : Str → Option Value) : Prop where
  cl : Cls K (aM K)
  nD : NoAttr K (aM K) "_divisor"
  nP : NoAttr K (aM K) "_plus"
  nL : NoAttr K (aM K) "_low"
  nH : NoAttr K (aM K) "_high"
  kc : PySem.W.findIn K (.ref (aM K)) "__class__" = some (some (.builtin "object.__class__"))
  sp : PySem.W.specialIn K (.builtin "object.__class__") "__get__" = some (some (.builtin "getset_descriptor.__get__"))
  tk : PySem.W.takesIn K (.builtin "object.__class__") = some true
  ob : PySem.W.mroIn K (aM K) (.type "object") = some true
  gM : mg "Move" = some (.ref (aM K))
/-- all but one thing stand -/
def Kp (s : Addr) (H H' : Hp) : Prop := ∀ c o, c ≠ s → H c = some o → H' c = some o
theorem Kp.put {s : Addr} {H H' : Hp} {o : HO} (k : Kp s H H') : Kp s H (upd H' s o) := fun c o' hc e => by rw [upd_ne hc]; exact k c o' hc e
theorem Kp.same {s : Addr} {H H' H'' : Hp} (k : Kp s H H') (j : Same H' H'') : Kp s H H'' := fun c o' hc e => j _ _ (k c o' hc e)
theorem notRat {K : PySem.W.Frag} {H : Hp} {s C dx a : Addr} {fs : List (Str × V)} {q : Rat} (e : H s = some (.ins C dx fs)) (hf : fs.lookup ("_top" : Str) = none) (h : RatAt K H a q) : a ≠ s := by
  obtain ⟨da, ea⟩ := h
  rintro rfl
  rw [e] at ea
  have z := ins_fs ea
  rw [z] at hf
  cases hf
theorem RatAt.kp {K : PySem.W.Frag} {H H' : Hp} {s a : Addr} {q : Rat} (h : RatAt K H a q) (ne : a ≠ s) (k : Kp s H H') : RatAt K H' a q := by
  obtain ⟨da, ea⟩ := h
  exact ⟨da, k _ _ ne ea⟩
theorem NumAt.kp {K : PySem.W.Frag} {H H' : Hp} {s C dx : Addr} {fs : List (Str × V)} {x : V} {q : Rat} (h : NumAt K H x q) (e : H s = some (.ins C dx fs)) (hf : fs.lookup ("_top" : Str) = none) (k : Kp s H H') : NumAt K H' x q := by
  rcases h with h | ⟨p, ex, hp⟩
  · exact .inl h
  · exact .inr ⟨p, ex, hp.kp (notRat e hf hp) k⟩
/-- a Move at an address -/
def MovAt (K : PySem.W.Frag) (H : Hp) (p : Addr) (d : Int) (u lo hi : Rat) : Prop := 1 ≤ d ∧ rBelow hi lo = false ∧ ∃ dx a b c, H p = some (.ins (aM K) dx [("_divisor", .int d), ("_plus", .ref a), ("_low", .ref b), ("_high", .ref c)]) ∧ RatAt K H a u ∧ RatAt K H b lo ∧ RatAt K H c hi
theorem MovAt.same {K : PySem.W.Frag} {H H' : Hp} {p : Addr} {d : Int} {u lo hi : Rat} (h : MovAt K H p d u lo hi) (k : Same H H') : MovAt K H' p d u lo hi := by
  obtain ⟨d1, l, dx, a, b, c, e, ha, hb, hc⟩ := h
  exact ⟨d1, l, dx, a, b, c, k _ _ e, ha.same k, hb.same k, hc.same k⟩
theorem MovAt.ty {K : PySem.W.Frag} {mg : Str → Option Value} {H : Hp} {p : Addr} {d : Int} {u lo hi : Rat} (T : MF K mg) (h : MovAt K H p d u lo hi) : TyX K H (.ref p) (.ref (aM K)) := by
  obtain ⟨_, _, dx, a, b, c, e, _⟩ := h
  exact .base (.ins e T.cl T.kc T.sp T.tk T.ob)
section
variable {P : Program} {w : World} {K : PySem.W.Frag} {mg : Str → Option Value} {base : Heap}
/-! ### the checks -/
def spChkDiv : Sp := fun vs H Q _ => ∃ d : Int, vs = [.int d] ∧ 1 ≤ d ∧ Q .non H
theorem scChkDiv : FnScope ["value"] ["value"] (defScope sChkDiv) := ⟨rfl, rfl, rfl, by decide +kernel, rfl, by decide +kernel, by decide +kernel⟩
theorem ok_chkDiv {f : Addr} {fd : FuncData} (F : Fun K "_check_divisor" "_check_divisor" sChkDiv f fd) (G : RG P w K mg base) : FnOk P w K mg base CX0 2 f fd ["value"] spChkDiv := by
  obtain ⟨fI, fdI, GI, gI, bI, kI⟩ := G.isInt
  refine F.ok scChkDiv (fun vs H Q E h => ?_) (fun cdv A outer s H vs Q E hr h => ?_)
  · obtain ⟨d, rfl, _⟩ := h
    rfl
  · obtain ⟨d, rfl, d1, k⟩ := h
    refine ⟨_, pss_one (ps_if (PW.pt (pw_or (pt_not (pt_val (pe_call GI hr rfl gI kI bI .nil pass0 (pa_cons (pv 0) pa_nil)))) (pw_or1 (pt_cmpR op_lt (pv 0) pe_int (nomark _))))) (pss_one ps_never) pss_nil), ?_⟩
    refine ⟨_, rfl, .int d, .type "int", true, false, rfl, .base (.int d), kit_ty (by decide +kernel), fun _ => kit_ty (by decide +kernel), true, rfl, ?_⟩
    refine iteF ⟨_, rfl, _, _, rfl, rfl, _, rfl, ?_⟩
    have e0 : decide (d < 1) = false := decide_eq_false (by omega)
    dsimp only
    rw [e0]
    exact iteF k
def spChkPart (K : PySem.W.Frag) : Sp := fun vs H Q _ => ∃ (n x : V) (q : Rat), vs = [n, x] ∧ NumAt K H x q ∧ Q .non H
theorem scChkPart : FnScope ["name", "value"] ["name", "value"] (defScope sChkPart) := ⟨rfl, rfl, rfl, by decide +kernel, rfl, by decide +kernel, by decide +kernel⟩
theorem ok_chkPart {f : Addr} {fd : FuncData} (F : Fun K "_check_part" "_check_part" sChkPart f fd) (I : RI P w K mg base) : FnOk P w K mg base CX0 3 f fd ["name", "value"] (spChkPart K) := by
  obtain ⟨fN, fdN, GN, gN, bN, kN⟩ := I.isNum
  refine F.ok scChkPart (fun vs H Q E h => ?_) (fun cdv A outer s H vs Q E hr h => ?_)
  · obtain ⟨n, x, q, rfl, _⟩ := h
    rfl
  · obtain ⟨n, x, q, rfl, hx, k⟩ := h
    refine ⟨_, pss_one (ps_if (pt_not (pt_val (pe_call GN hr rfl gN kN bN .nil pass0 (pa_cons (pv 1) pa_nil)))) (pss_one ps_never) pss_nil), ?_⟩
    exact ⟨_, rfl, x, q, rfl, hx, true, rfl, iteF k⟩
end
end K18
set_option maxHeartbeats 4000000
namespace K18
open PySem PySem.Spec PyProof.Rows L2 GL
/-- what Move calls -/
structure RM (P : Program) (w : World) (K : PySem.W.Frag) (mg : Str → Option Value) (base : Heap) : Prop where
  L : RL P w K mg base
  T : MF K mg
  chkD : ∃ f fd, FnOk P w K mg base CX0 2 f fd ["value"] spChkDiv ∧ mg "_check_divisor" = some (.ref f) ∧ Binds K fd ["value"] [] ∧ PySem.W.keepIn K (.ref f) = true
  chkP : ∃ f fd, FnOk P w K mg base CX0 3 f fd ["name", "value"] (spChkPart K) ∧ mg "_check_part" = some (.ref f) ∧ Binds K fd ["name", "value"] [] ∧ PySem.W.keepIn K (.ref f) = true
section
variable {P : Program} {w : World} {K : PySem.W.Frag} {mg : Str → Option Value} {base : Heap}
/-! ### Move.__init__ -/
def spMInit (K : PySem.W.Frag) : Sp := fun vs H Q _ => ∃ (s dx : Addr) (d : Int) (x y z : V) (u q r : Rat), vs = [.ref s, .int d, x, y, z] ∧ H s = some (.ins (aM K) dx []) ∧ 1 ≤ d ∧ NumAt K H x u ∧ NumAt K H y q ∧ NumAt K H z r ∧ Sz 100000 q ∧ Sz 100000 r ∧ rBelow r q = false ∧
  ∀ H', Kp s H H' → MovAt K H' s d u q r → Q .non H'
theorem scMInit : FnScope ["self", "divisor", "plus", "low", "high"] ["self", "divisor", "plus", "low", "high"] (defScope (sMove 0)) := ⟨rfl, rfl, rfl, by decide +kernel, rfl, by decide +kernel, by decide +kernel⟩
theorem ok_mInit {f : Addr} {fd : FuncData} (F : FunD K "__init__" "Move.__init__" (defArgs (sMove 0)) (defBody (sMove 0)) (defScope (sMove 0)) [] [] f fd) (M : RM P w K mg base) : FnOk P w K mg base CX0 6 f fd ["self", "divisor", "plus", "low", "high"] (spMInit K) := by
  obtain ⟨mc, pp, fo, cr, cm, GO⟩ := M.L.C.J.I.R.of
  obtain ⟨fB, fdB, mB, GB, bB⟩ := M.L.C.J.I.below
  obtain ⟨fD, fdD, GD, gD, bD, kD⟩ := M.chkD
  obtain ⟨fC, fdC, GC, gC, bC, kC⟩ := M.chkP
  have TR := M.L.C.J.I.R.G.T
  have T := M.T
  refine F.ok scMInit (fun vs H Q E h => ?_) (fun cdv A outer s H vs Q E hr h => ?_)
  · obtain ⟨s, dx, d, x, y, z, u, q, r, rfl, _⟩ := h
    rfl
  · obtain ⟨s, dx, d, x, y, z, u, q, r, rfl, es, d1, hx, hy, hz, sq, sr, le, k⟩ := h
    refine ⟨_, pss_cons (ps_expr (pe_call GD (hr.mono (by decide)) rfl gD kD bD .nil pass0 (pa_cons (pv 1) pa_nil)))
      (pss_cons (ps_expr (pe_call GC (hr.mono (by decide)) rfl gC kC bC .nil pass0 (pa_cons pe_str (pa_cons (pv 2) pa_nil))))
      (pss_cons (ps_expr (pe_call GC (hr.mono (by decide)) rfl gC kC bC .nil pass0 (pa_cons pe_str (pa_cons (pv 3) pa_nil))))
      (pss_cons (ps_expr (pe_call GC (hr.mono (by decide)) rfl gC kC bC .nil pass0 (pa_cons pe_str (pa_cons (pv 4) pa_nil))))
      (pss_cons (ps_fld (pv 0) (pv 1) rfl)
      (pss_cons (ps_fld (pv 0) (ClX.pe_cmeth (pe_glob (v := .ref (aR K)) rfl TR.gR rfl) cr cm GO (hr.mono (by decide)) pass0 (pa_cons (pv 2) pa_nil)) rfl)
      (pss_cons (ps_fld (pv 0) (ClX.pe_cmeth (pe_glob (v := .ref (aR K)) rfl TR.gR rfl) cr cm GO (hr.mono (by decide)) pass0 (pa_cons (pv 3) pa_nil)) rfl)
      (pss_cons (ps_fld (pv 0) (ClX.pe_cmeth (pe_glob (v := .ref (aR K)) rfl TR.gR rfl) cr cm GO (hr.mono (by decide)) pass0 (pa_cons (pv 4) pa_nil)) rfl)
      (pss_one (ps_if (pt_val (pe_meth (pe_fld (pv 0) rfl) TR.cl mB GB hr bB .nil pass0 (pa_cons (pe_fld (pv 0) rfl) pa_nil))) (pss_one ps_never) pss_nil))))))))), ?_⟩
    refine ⟨_, rfl, d, rfl, d1, ?_⟩
    refine ⟨_, rfl, _, x, u, rfl, hx, ?_⟩
    refine ⟨_, rfl, _, y, q, rfl, hy, ?_⟩
    refine ⟨_, rfl, _, z, r, rfl, hz, ?_⟩
    refine ⟨_, rfl, _, rfl, s, _, dx, _, rfl, es, T.cl, T.nD, (by decide), ?_⟩
    have k0 : Kp s H (upd H s (.ins (aM K) dx [("_divisor", .int d)])) := Kp.put fun c o _ e => e
    refine ⟨rfl, _, rfl, x, u, rfl, hx.kp es rfl k0, fun a H1 k1 ha => ?_⟩
    have e1 := k1 _ _ upd_same
    refine ⟨_, rfl, s, _, dx, _, rfl, e1, T.cl, T.nP, (by show 1 < 1000; decide), ?_⟩
    have na := notRat e1 rfl ha
    have kA : Kp s H1 (upd H1 s (.ins (aM K) dx [("_divisor", .int d), ("_plus", .ref a)])) := Kp.put fun c o _ e => e
    have k01 := (k0.same k1).put (o := .ins (aM K) dx [("_divisor", .int d), ("_plus", .ref a)])
    have ha1 := ha.kp na kA
    refine ⟨rfl, _, rfl, y, q, rfl, hy.kp es rfl k01, fun b H2 k2 hb => ?_⟩
    have e2 := k2 _ _ upd_same
    refine ⟨_, rfl, s, _, dx, _, rfl, e2, T.cl, T.nL, (by show 2 < 1000; decide), ?_⟩
    have nb := notRat e2 rfl hb
    have kB : Kp s H2 (upd H2 s (.ins (aM K) dx [("_divisor", .int d), ("_plus", .ref a), ("_low", .ref b)])) := Kp.put fun c o _ e => e
    have k02 := (k01.same k2).put (o := .ins (aM K) dx [("_divisor", .int d), ("_plus", .ref a), ("_low", .ref b)])
    have ha2 := (ha1.same k2).kp na kB
    have hb2 := hb.kp nb kB
    refine ⟨rfl, _, rfl, z, r, rfl, hz.kp es rfl k02, fun c H3 k3 hc => ?_⟩
    have e3 := k3 _ _ upd_same
    refine ⟨_, rfl, s, _, dx, _, rfl, e3, T.cl, T.nH, (by show 3 < 1000; decide), ?_⟩
    have nc := notRat e3 rfl hc
    have kC3 : Kp s H3 (upd H3 s (.ins (aM K) dx [("_divisor", .int d), ("_plus", .ref a), ("_low", .ref b), ("_high", .ref c)])) := Kp.put fun c o _ e => e
    have k03 := (k02.same k3).put (o := .ins (aM K) dx [("_divisor", .int d), ("_plus", .ref a), ("_low", .ref b), ("_high", .ref c)])
    have ha3 := (ha2.same k3).kp na kC3
    have hb3 := (hb2.same k3).kp nb kC3
    have hc3 := hc.kp nc kC3
    obtain ⟨db, eb⟩ := hb3
    obtain ⟨dc, ec⟩ := hc3
    refine ⟨_, rfl, s, _, dx, _, _, rfl, upd_same, T.cl, T.nH, rfl, c, dc, _, rfl, ec, rfl, _, rfl, s, _, dx, _, _, rfl, upd_same, T.cl, T.nL, rfl, c, .ref b, r, q, rfl, ⟨dc, ec⟩, .inr ⟨b, rfl, db, eb⟩, sr, sq, fun H4 k4 => ⟨_, rfl, ?_⟩⟩
    rw [le]
    exact iteF (k H4 (k03.same k4) ⟨d1, le, dx, a, b, c, k4 _ _ upd_same, ha3.same k4, RatAt.same ⟨db, eb⟩ k4, RatAt.same ⟨dc, ec⟩ k4⟩)
end
end K18
set_option maxHeartbeats 4000000
namespace K18
open PySem PySem.Spec PyProof.Rows L2 GL
/-- a property of a class: its record, its def's promise -/
def PropX (P : Program) (w : World) (K : PySem.W.Frag) (mg : Str → Option Value) (base : Heap) (C : Addr) (f : Str) (sp : Sp) : Prop := ∃ p g fd, PropOf K C f p g ∧ FnOk P w K mg base CX0 1 g fd ["self"] sp ∧ Binds K fd ["self"] []
/-- a method -/
def MetX (P : Program) (w : World) (K : PySem.W.Frag) (mg : Str → Option Value) (base : Heap) (C : Addr) (m : Str) (k : Nat) (ps : List Str) (sp : Sp) : Prop := ∃ f fd, Meth K C m f ∧ FnOk P w K mg base CX0 k f fd ps sp ∧ Binds K fd ps []
/-- a def of the module -/
def DefF (P : Program) (w : World) (K : PySem.W.Frag) (mg : Str → Option Value) (base : Heap) (x : Str) (k : Nat) (ps : List Str) (sp : Sp) : Prop := ∃ f fd, FnOk P w K mg base CX0 k f fd ps sp ∧ mg x = some (.ref f) ∧ Binds K fd ps [] ∧ PySem.W.keepIn K (.ref f) = true
/-- two Ratios by Ratio.__eq__ -/
def RatB (K : PySem.W.Frag) : DB := fun x y b H => ∃ a c q r, x = .ref a ∧ y = .ref c ∧ RatAt K H a q ∧ RatAt K H c r ∧ b = decide (q = r)
theorem ratAt_inj {K : PySem.W.Frag} {H : Hp} {a : Addr} {q r : Rat} (h : RatAt K H a q) (k : RatAt K H a r) : q = r := by
  obtain ⟨d, e⟩ := h
  obtain ⟨d2, e2⟩ := k
  rw [e] at e2
  have z := ins_fs e2
  injection z with z1 z2
  injection z1 with _ z1
  injection z1 with z1
  injection z2 with z2 _
  injection z2 with _ z2
  injection z2 with z2
  exact Rat.ext z1 (by omega)
/-- flat things and Ratios -/
def ThB (K : PySem.W.Frag) : DB := fun x y b H => FlatB x y b H ∨ RatB K x y b H
theorem monB_rat {K : PySem.W.Frag} : MonB (RatB K) := by
  intro x y b H H' k d
  obtain ⟨a, c, q, r, e1, e2, ha, hc, e⟩ := d
  exact ⟨a, c, q, r, e1, e2, ha.same k, hc.same k, e⟩
theorem monB_th {K : PySem.W.Frag} : MonB (ThB K) := monB_flat.or monB_rat
theorem eqB_rat {X : Cx} {f : Addr} (B : GL.OwnEq X.K (aR X.K) f) (F : FnR X.prog X.w X.K X.mg X.base CX0 1 f (spREq X.K)) : EqB X 1 (RatB X.K) := by
  have z := eqB_ins (E := fun _ _ _ => False) B F (X := X) (pass0 (X := X))
  intro A pins s σ H x y u v b sb I rx ry d
  refine z A pins s σ H x y u v b sb I rx ry ?_
  obtain ⟨a, c, q, r, rfl, rfl, ha, hc, rfl⟩ := d
  obtain ⟨da, ea⟩ := id ha
  obtain ⟨dc, ec⟩ := id hc
  refine ⟨a, c, da, dc, _, _, rfl, rfl, ea, ec, ?_, a, .ref c, q, rfl, ha, .inl ⟨c, r, rfl, hc, rfl, fun _ _ e => e⟩⟩
  rintro rfl
  exact decide_eq_true (ratAt_inj ha hc)
theorem eqB_th {X : Cx} {f : Addr} (B : GL.OwnEq X.K (aR X.K) f) (F : FnR X.prog X.w X.K X.mg X.base CX0 1 f (spREq X.K)) : EqB X 1 (ThB X.K) := (eqB_flat.mono (by decide)).or (eqB_rat B F)
section
variable {P : Program} {w : World} {K : PySem.W.Frag} {mg : Str → Option Value} {base : Heap}
/-! ### form -/
end
end K18
set_option maxHeartbeats 4000000
namespace K18
open PySem PySem.Spec PyProof.Rows L2 GL
abbrev sIsList : Stmt := tp 18
abbrev sIsName : Stmt := tp 19
abbrev sIsWord : Stmt := tp 20
abbrev sHasNames : Stmt := tp 21
abbrev sIsOneOf : Stmt := tp 22
def lettersS : Str := "abcdefghijklmnopqrstuvwxyz"
/-- what of the module's names the checks of names need -/
structure NF (K : PySem.W.Frag) (mg : Str → Option Value) : Prop where
  isi : mg "isinstance" = none
  str : mg "str" = none
  list : mg "list" = none
  tuple : mg "tuple" = none
  dict : mg "dict" = none
  len : mg "len" = none
  all : mg "all" = none
  let_ : ∃ u, mg "LETTERS" = some u ∧ RelV (.str lettersS) u
  lng : ∃ u, mg "LONGEST_WORD" = some u ∧ RelV (.int 8) u
/-- every letter of it within LETTERS -/
def lettersB (s : Str) : List Bool := s.cps.toList.map fun c => !(Builtin.Str.occurrences lettersS ⟨#[c]⟩ 0 lettersS.length 1).isEmpty
def wordB (s : Str) : Bool := decide ((1 : Int) ≤ s.length) && (decide ((s.length : Int) ≤ 8) && (lettersB s).all id)
def nameB (s : Str) : Bool := decide (((Txt.split s ".").length : Int) ≤ 2) && (Txt.split s ".").all wordB
section
variable {P : Program} {w : World} {K : PySem.W.Frag} {mg : Str → Option Value} {base : Heap}
def spWord : Sp := fun vs H Q _ => ∃ s : Str, vs = [.str s] ∧ s.length ≤ 1000 ∧ ∀ H', Same H H' → Q (.bl (wordB s)) H'
theorem scWord : FnScope ["text", "letter"] ["text"] (defScope sIsWord) := ⟨rfl, rfl, rfl, by decide +kernel, rfl, by decide +kernel, by decide +kernel⟩
theorem ok_word {f : Addr} {fd : FuncData} (F : Fun K "_is_word" "_is_word" sIsWord f fd) (Z : NF K mg) : FnOk P w K mg base CX0 1 f fd ["text"] spWord := by
  obtain ⟨uL, gL, rL⟩ := Z.let_
  obtain ⟨uW, gW, rW⟩ := Z.lng
  refine F.ok scWord (fun vs H Q E h => ?_) (fun cdv A outer s H vs Q E hr h => ?_)
  · obtain ⟨s, rfl, _⟩ := h
    rfl
  · obtain ⟨x, rfl, len, k⟩ := h
    refine ⟨_, pss_one (ps_ret (pe_and (pe_chain op_le op_le pe_int (pe_callB call_len_str (by rfl) Z.len PySem.boot_len (pa_cons (pv 0) pa_nil)) (pe_glob rfl gW rW))
      (pe_one (pe_callB (cr_all rfl) (by rfl) Z.all (by decide +kernel) (pa_cons (pe_lc (own := [("letter", 1)]) (g := gName 1) (tt := tYes) rfl scWord.nd (pi_str (pv 0))
        (blkOk_by (own := [("letter", 1)]) (N := ["text", "letter"]) (sc := defScope sIsWord) (by decide +kernel)) (fun _ _ _ _ _ => pg_name (i := 1) scWord.nd rfl (Or.inl rfl)) (fun _ _ _ _ _ => pts_nil)
        (fun _ _ _ _ _ => by exact (pe_cmpR op_in_str (pv 1) (pe_glob rfl gL rL) (by with_unfolding_all rfl)))) pa_nil))))), ?_⟩
    have l8 : x.length ≤ sizeLine := Nat.le_trans len (by decide)
    unfold wordB at k
    refine ⟨_, rfl, x, rfl, l8, _, _, rfl, rfl, _, rfl, ?_⟩
    refine ite2 (fun c => ?_) (fun c => ?_)
    · rw [c, Bool.true_and] at k
      refine ⟨_, _, rfl, rfl, _, rfl, ?_⟩
      refine ite2 (fun c2 => ?_) (fun c2 => ?_)
      · rw [c2, Bool.true_and] at k
        refine ⟨_, rfl, x, rfl, fun D hD => ?_⟩
        have up := same_new (o := .lst []) hD
        have sz : (lettersB x).length = x.cps.size := by simp [lettersB]
        refine lc_it walk_str (fun i G => Same H G ∧ G D = some (.lst (((lettersB x).take i).map V.bl))) ⟨up, upd_same⟩ (fun _ _ _ _ => trivial) ?_ ?_
        · rintro i y G G' hi ⟨sG, hG⟩ ⟨rfl, c, hc, rfl⟩
          refine ⟨rfl, _, rfl, _, _, rfl, rfl, _, hG, ?_, ?_, ?_⟩
          · rw [List.length_map, List.length_take, sizeLine_eq]
            have z : x.cps.size ≤ 1000 := len
            omega
          · intro b o e
            rw [upd_ne (ne_of_none e hD)]
            exact sG b o e
          · have e : (lettersB x)[i]? = some (!(Builtin.Str.occurrences lettersS ⟨#[c]⟩ 0 lettersS.length 1).isEmpty) := by
              unfold lettersB
              rw [List.getElem?_map, Array.getElem?_toList, hc]
              rfl
            rw [upd_same, List.take_add_one, e, List.map_append]
            rfl
        · rintro G ⟨sG, hG⟩
          rw [← sz, List.take_length] at hG
          refine ⟨D, lettersB x, rfl, SqL.of hG, ?_⟩
          exact k G sG
      · rw [Bool.eq_false_iff.mpr c2, Bool.false_and] at k
        exact k H fun _ _ e => e
    · rw [Bool.eq_false_iff.mpr c, Bool.false_and] at k
      exact ⟨_, rfl, iteF (k H fun _ _ e => e)⟩
/-! ### is_name -/
/-- what is_name is asked -/
def IsNm (K : PySem.W.Frag) (H : Hp) (x : V) (b : Bool) : Prop := (∃ s : Str, x = .str s ∧ s.length ≤ 100 ∧ (∀ u ∈ Txt.split s ".", u.length ≤ 1000) ∧ b = nameB s) ∨ (b = false ∧ ∃ t, TyX K H x t ∧ PySem.W.kitOne K t (.type "str") = some false)
def spName (K : PySem.W.Frag) : Sp := fun vs H Q _ => ∃ x b, vs = [x] ∧ IsNm K H x b ∧ ∀ H', Same H H' → Q (.bl b) H'
abbrev nName : List Str := ["value", "words", "word"]
theorem scName : FnScope nName ["value"] (defScope sIsName) := ⟨rfl, rfl, rfl, by decide +kernel, rfl, by decide +kernel, by decide +kernel⟩
theorem ok_name {f : Addr} {fd : FuncData} (F : Fun K "is_name" "is_name" sIsName f fd) (Z : NF K mg) (wd : DefF P w K mg base "_is_word" 1 ["text"] spWord) : FnOk P w K mg base CX0 2 f fd ["value"] (spName K) := by
  obtain ⟨fW, fdW, GW, gW, bW, kW⟩ := wd
  refine F.ok scName (fun vs H Q E h => ?_) (fun cdv A outer s H vs Q E hr h => ?_)
  · obtain ⟨x, b, rfl, _⟩ := h
    rfl
  · obtain ⟨x, b, rfl, nm, k⟩ := h
    refine ⟨_, pss_cons (ps_if (pt_not (pt_val (pe_callB call_isi (by rfl) Z.isi (by decide +kernel) (pa_cons (pv 0) (pa_cons (pe_bltn (v := .ty "str") (by rfl) Z.str (by decide +kernel) rfl) pa_nil))))) (pss_one (ps_ret pe_bl)) pss_nil)
      (pss_cons (ps_set (i := 1) scName.nd rfl (Or.inl rfl) (pe_bm PySem.F.plainAttrs_str PySem.F.slot_str_split PySem.F.type_str_split mt_split (pv 0) (pa_cons pe_str pa_nil)))
      (pss_one (ps_ret (pe_and (pe_cmpR op_le (pe_callB call_len_seq (by rfl) Z.len PySem.boot_len (pa_cons (pv 1) pa_nil)) pe_int (nomark _))
        (pe_one (pe_callB (cr_all rfl) (by rfl) Z.all (by decide +kernel) (pa_cons (pe_lc (own := [("word", 2)]) (g := gName 2) (tt := tYes) (te := tCall spWord [] E0 (tCons (tVar 2) tNil)) rfl scName.nd (pi_list (pv 1))
          (blkOk_by (own := [("word", 2)]) (N := nName) (sc := defScope sIsName) (by decide +kernel)) (fun _ _ _ _ _ => pg_name (i := 2) scName.nd rfl (Or.inl rfl)) (fun _ _ _ _ _ => pts_nil)
          (fun _ _ _ _ _ => by exact (pe_call GW hr rfl gW kW bW .nil pass0 (pa_cons (pv 2) pa_nil)))) pa_nil))))))), ?_⟩
    rcases nm with ⟨z, rfl, len, ws, rfl⟩ | ⟨rfl, t, ty, no⟩
    · refine ⟨_, rfl, .str z, .ty "str", .type "str", _, true, rfl, .ty _, .base (.str z), kit_ty (by decide +kernel), true, rfl, iteF ?_⟩
      have hl : (Txt.split z ".").length ≤ 102 := Nat.le_trans (PyProof.Rows.split_le z ".") (by omega)
      refine ⟨_, rfl, rfl, z, ".", rfl, rfl, by decide +kernel, by rw [sizeLine_eq]; omega, fun l nl => ?_⟩
      have u1 := same_new (o := .lst ((Txt.split z ".").map V.str)) nl
      have hL : upd H l (.lst ((Txt.split z ".").map V.str)) l = some (.lst ((Txt.split z ".").map V.str)) := upd_same
      generalize upd H l (.lst ((Txt.split z ".").map V.str)) = H1 at *
      unfold nameB at k
      refine ⟨_, rfl, _, _, rfl, .inl (SqL.of hL), _, _, rfl, rfl, ?_⟩
      rw [List.length_map]
      refine ⟨_, rfl, ?_⟩
      refine ite2 (fun c => ?_) (fun c => ?_)
      · rw [c, Bool.true_and] at k
        refine ⟨_, rfl, l, rfl, ⟨_, SqL.of hL⟩, fun D hD => ?_⟩
        have u2 := same_new (o := .lst []) hD
        refine lc_list (K := K) (a := l) (xs := (Txt.split z ".").map V.str) (fun i G => Same H1 G ∧ G D = some (.lst ((((Txt.split z ".").map wordB).take i).map V.bl))) ⟨u2, upd_same⟩ (fun i G _ ⟨s, _⟩ => SqL.of (s _ _ hL)) ?_ ?_
        · rintro i y G hi ⟨sG, hG⟩
          rw [List.getElem?_map] at hi
          obtain ⟨u, hu, rfl⟩ := Option.map_eq_some_iff.mp hi
          have il : i < (Txt.split z ".").length := (List.getElem?_eq_some_iff.mp hu).1
          refine ⟨rfl, _, rfl, u, rfl, ws u (List.mem_of_getElem? hu), fun G' s' => ⟨_, s' _ _ hG, ?_, ?_, ?_⟩⟩
          · rw [List.length_map, List.length_take, List.length_map, sizeLine_eq]
            omega
          · intro b o e
            have e2 := s' _ _ (sG _ _ e)
            rw [upd_ne (ne_of_none e hD)]
            exact e2
          · rw [upd_same, List.take_add_one, List.getElem?_map, hu, List.map_append]
            rfl
        · rintro G ⟨sG, hG⟩
          rw [List.length_map, ← List.length_map (f := wordB), List.take_length] at hG
          refine ⟨D, (Txt.split z ".").map wordB, rfl, SqL.of hG, ?_⟩
          rw [List.all_map]
          exact k G (u1.trans sG)
      · rw [Bool.eq_false_iff.mpr c, Bool.false_and] at k
        exact k _ u1
    · exact ⟨_, rfl, x, .ty "str", t, _, false, rfl, .ty _, ty, no, false, rfl, iteT (k H fun _ _ e => e)⟩
end
end K18
set_option maxHeartbeats 4000000
namespace K18
open PySem PySem.Spec PyProof.Rows L2 GL
section
variable {P : Program} {w : World} {K : PySem.W.Frag} {mg : Str → Option Value} {base : Heap}
/-! ### is_list -/
def spIsList (K : PySem.W.Frag) : Sp := fun vs H Q _ => ∃ x t b, vs = [x] ∧ TyX K H x t ∧ PySem.W.kitAny K t [.type "list", .type "tuple"] = some b ∧ ∀ H', Same H H' → Q (.bl b) H'
theorem scIsList : FnScope ["value"] ["value"] (defScope sIsList) := ⟨rfl, rfl, rfl, by decide +kernel, rfl, by decide +kernel, by decide +kernel⟩
theorem TyX.same' {H H' : Hp} {x : V} {t : Value} (h : TyX K H x t) (k : Same H H') : TyX K H' x t := by
  cases h with
  | base h =>
    refine .base ?_
    cases h with
    | non => exact .non
    | bl x => exact .bl x
    | int i => exact .int i
    | str x => exact .str x
    | flt x => exact .flt x
    | lst e => exact .lst (k _ _ e)
    | frz e => exact .frz (k _ _ e)
    | tup e => exact .tup (k _ _ e)
    | dK e => exact .dK (k _ _ e)
    | dT e => exact .dT (k _ _ e)
    | ins e cl ha hn htk hm => exact .ins (k _ _ e) cl ha hn htk hm
  | byt b => exact .byt b
  | set e => exact .set (k _ _ e)
  | kList e c => exact .kList e c
  | kTuple e c => exact .kTuple e c
  | kDict e c => exact .kDict e c
  | fTuple e => exact .fTuple (k _ _ e)
  | fDict e => exact .fDict (k _ _ e)
theorem ok_isList {f : Addr} {fd : FuncData} (F : Fun K "is_list" "is_list" sIsList f fd) (Z : NF K mg) : FnOk P w K mg base CX0 1 f fd ["value"] (spIsList K) := by
  refine F.ok scIsList (fun vs H Q E h => ?_) (fun cdv A outer s H vs Q E hr h => ?_)
  · obtain ⟨x, t, b, rfl, _⟩ := h
    rfl
  · obtain ⟨x, t, b, rfl, ty, e, k⟩ := h
    refine ⟨_, pss_one (ps_ret (pe_callB call_isiT (by rfl) Z.isi (by decide +kernel) (pa_cons (pv 0) (pa_cons (pe_tup (pa_cons (pe_bltn (v := .ty "list") (by rfl) Z.list (by decide +kernel) rfl) (pa_cons (pe_bltn (v := .ty "tuple") (by rfl) Z.tuple (by decide +kernel) rfl) pa_nil))) pa_nil)))), ?_⟩
    refine ⟨_, rfl, (by show 2 ≤ sizeLine; decide), fun p np => ?_⟩
    have u1 := same_new (o := .tup [V.ty "list", .ty "tuple"]) np
    exact ⟨x, p, _, t, _, b, rfl, upd_same, .cons (.ty _) (.cons (.ty _) .nil), TyX.same' ty u1, e, k _ u1⟩
/-! ### is_one_of -/
/-- a text of the list, or none -/
def spOneOf (K : PySem.W.Frag) : Sp := fun vs H Q _ => ∃ (x : V) (a : Addr) (zs : List Str), vs = [x, .ref a] ∧ SqT K H a (zs.map V.str) ∧ ((∃ s : Str, x = .str s ∧ Q (.bl (inV (.str s) (zs.map V.str))) H) ∨ ∃ t, TyX K H x t ∧ PySem.W.kitOne K t (.type "str") = some false ∧ Q (.bl false) H)
theorem scOneOf : FnScope ["value", "names"] ["value", "names"] (defScope sIsOneOf) := ⟨rfl, rfl, rfl, by decide +kernel, rfl, by decide +kernel, by decide +kernel⟩
theorem ok_oneOf {f : Addr} {fd : FuncData} (F : Fun K "is_one_of" "is_one_of" sIsOneOf f fd) (Z : NF K mg) : FnOk P w K mg base CX0 1 f fd ["value", "names"] (spOneOf K) := by
  refine F.ok scOneOf (fun vs H Q E h => ?_) (fun cdv A outer s H vs Q E hr h => ?_)
  · obtain ⟨x, a, zs, rfl, _⟩ := h
    rfl
  · obtain ⟨x, a, zs, rfl, ha, h⟩ := h
    refine ⟨_, pss_one (ps_ret (pe_and (pe_callB call_isi (by rfl) Z.isi (by decide +kernel) (pa_cons (pv 0) (pa_cons (pe_bltn (v := .ty "str") (by rfl) Z.str (by decide +kernel) rfl) pa_nil)))
      (pe_one (pe_cmpR op_in_seq (pv 0) (pv 1) (by with_unfolding_all rfl))))), ?_⟩
    rcases h with ⟨z, rfl, k⟩ | ⟨t, ty, no, k⟩
    · refine ⟨_, rfl, .str z, .ty "str", .type "str", _, true, rfl, .ty _, .base (.str z), kit_ty (by decide +kernel), true, rfl, iteT ?_⟩
      exact ⟨_, rfl, _, rfl, a, _, rfl, .inr ha, rfl, by simp [flatV], k⟩
    · exact ⟨_, rfl, x, .ty "str", t, _, false, rfl, .ty _, ty, no, false, rfl, iteF k⟩
/-! ### has_names -/
def keyNm : Key → Bool
  | .inl _ => false
  | .inr s => nameB s
def KeyOk : Key → Prop
  | .inl _ => True
  | .inr s => s.length ≤ 100 ∧ ∀ u ∈ Txt.split s ".", u.length ≤ 1000
theorem isNm_key {H : Hp} {k : Key} (h : KeyOk k) : IsNm K H (kV k) (keyNm k) := by
  cases k with
  | inl i => exact .inr ⟨rfl, _, .base (.int i), kit_ty (by decide +kernel)⟩
  | inr s => exact .inl ⟨s, rfl, h.1, h.2, rfl⟩
/-- a dict, or none -/
def spHasNames (K : PySem.W.Frag) : Sp := fun vs H Q _ => ∃ x b, vs = [x] ∧ ((∃ (d : Addr) (kvs : List (Key × V)), x = .ref d ∧ H d = some (.dK kvs) ∧ kvs.length ≤ 1000 ∧ (∀ kv ∈ kvs, KeyOk kv.1) ∧ b = kvs.all fun kv => keyNm kv.1) ∨
  (∃ (d : Addr) (kvs : List (List Key × V)), x = .ref d ∧ H d = some (.dT kvs) ∧ kvs.length ≤ 1000 ∧ kvs ≠ [] ∧ b = false) ∨
  (∃ t, TyX K H x t ∧ PySem.W.kitOne K t (.type "dict") = some false ∧ b = false)) ∧ ∀ H', Same H H' → Q (.bl b) H'
theorem scHasNames : FnScope ["value", "key"] ["value"] (defScope sHasNames) := ⟨rfl, rfl, rfl, by decide +kernel, rfl, by decide +kernel, by decide +kernel⟩
theorem ok_hasNames {f : Addr} {fd : FuncData} (F : Fun K "has_names" "has_names" sHasNames f fd) (Z : NF K mg) (nm : DefF P w K mg base "is_name" 2 ["value"] (spName K)) : FnOk P w K mg base CX0 3 f fd ["value"] (spHasNames K) := by
  obtain ⟨fN, fdN, GN, gN, bN, kN⟩ := nm
  refine F.ok scHasNames (fun vs H Q E h => ?_) (fun cdv A outer s H vs Q E hr h => ?_)
  · obtain ⟨x, b, rfl, _⟩ := h
    rfl
  · obtain ⟨x, b, rfl, h, k⟩ := h
    refine ⟨_, pss_one (ps_ret (pe_and (pe_callB call_isi (by rfl) Z.isi (by decide +kernel) (pa_cons (pv 0) (pa_cons (pe_bltn (v := .ty "dict") (by rfl) Z.dict (by decide +kernel) rfl) pa_nil)))
      (pe_one (pe_lock (pe_callB (cr_all rfl) (by rfl) Z.all (by decide +kernel) (pa_cons (pe_lc (own := [("key", 1)]) (g := gName 1) (tt := tYes) (te := tCall (spName K) [] E0 (tCons (tVar 1) tNil)) rfl scHasNames.nd (pi_keys (pv 0))
        (blkOk_by (own := [("key", 1)]) (N := ["value", "key"]) (sc := defScope sHasNames) (by decide +kernel)) (fun _ _ _ _ _ => pg_name (i := 1) scHasNames.nd rfl (Or.inl rfl)) (fun _ _ _ _ _ => pts_nil)
        (fun _ _ _ _ _ => by exact (pe_call GN hr rfl gN kN bN .nil pass0 (pa_cons (pv 1) pa_nil)))) pa_nil)))))), ?_⟩
    rcases h with ⟨d, kvs, rfl, hd, len, ks, rfl⟩ | ⟨d, kvs, rfl, hd, len, ne, rfl⟩ | ⟨t, ty, no, rfl⟩
    · refine ⟨_, rfl, .ref d, .ty "dict", .type "dict", _, true, rfl, .ty _, .base (.dK hd), kit_ty (by decide +kernel), true, rfl, iteT ?_⟩
      refine ⟨d, _, hd, trivial, fun od => ?_⟩
      refine ⟨_, rfl, d, od, rfl, .inl ⟨kvs, upd_same, fun D hD => ?_⟩⟩
      have Dd : D ≠ d := fun z => by rw [z, upd_same] at hD; cases hD
      have hD0 : H D = none := by rw [upd_ne Dd] at hD; exact hD
      refine lc_it walk_keys (fun i G => (∀ b o, H b = some o → b ≠ d → G b = some o) ∧ G d = some (.frz od (.dK kvs)) ∧ G D = some (.lst (((kvs.map fun kv => keyNm kv.1).take i).map V.bl))) ⟨fun b o e n => ?_, ?_, upd_same⟩ (fun _ _ _ h => h.2.1) ?_ ?_
      · rw [upd_ne (ne_of_none e hD0), upd_ne n]
        exact e
      · rw [upd_ne Dd.symm]
        exact upd_same
      · rintro i y G G' hi ⟨sG, dG, hG⟩ ⟨rfl, key, v, hk, rfl⟩
        refine ⟨rfl, _, rfl, kV key, keyNm key, rfl, isNm_key (ks _ (List.mem_of_getElem? hk)), fun G' s' => ⟨_, s' _ _ hG, ?_, ?_, ?_, ?_⟩⟩
        · rw [List.length_map, List.length_take, List.length_map, sizeLine_eq]
          omega
        · intro b o e n
          rw [upd_ne (ne_of_none e hD0)]
          exact s' _ _ (sG b o e n)
        · rw [upd_ne Dd.symm]
          exact s' _ _ dG
        · rw [upd_same, List.take_add_one, List.getElem?_map, hk, List.map_append]
          rfl
      · rintro G ⟨sG, dG, hG⟩
        rw [← List.length_map (f := fun kv : Key × V => keyNm kv.1), List.take_length] at hG
        refine ⟨D, kvs.map fun kv => keyNm kv.1, rfl, SqL.of hG, dG, ?_⟩
        rw [List.all_map]
        refine k _ fun b o e => ?_
        by_cases n : b = d
        · rw [n] at e ⊢
          rw [hd] at e
          rw [upd_same]
          exact e
        · rw [upd_ne n]
          exact sG b o e n
    · refine ⟨_, rfl, .ref d, .ty "dict", .type "dict", _, true, rfl, .ty _, .base (.dT hd), kit_ty (by decide +kernel), true, rfl, iteT ?_⟩
      refine ⟨d, _, hd, trivial, fun od => ?_⟩
      refine ⟨_, rfl, d, od, rfl, .inr ⟨kvs, upd_same, fun D hD => ?_⟩⟩
      have Dd : D ≠ d := fun z => by rw [z, upd_same] at hD; cases hD
      have hD0 : H D = none := by rw [upd_ne Dd] at hD; exact hD
      refine lc_it walk_keysT (fun i G => (∀ b o, H b = some o → b ≠ d → G b = some o) ∧ G d = some (.frz od (.dT kvs)) ∧ G D = some (.lst ((List.replicate i false).map V.bl))) ⟨fun b o e n => ?_, ?_, upd_same⟩ (fun _ _ _ h => h.2.1) ?_ ?_
      · rw [upd_ne (ne_of_none e hD0), upd_ne n]
        exact e
      · rw [upd_ne Dd.symm]
        exact upd_same
      · rintro i y G G' hi ⟨sG, dG, hG⟩ ⟨rfl, key, v, q, hk, rfl, hq⟩
        refine ⟨rfl, _, rfl, .ref q, false, rfl, .inr ⟨rfl, _, .base (.tup hq), kit_ty (by decide +kernel)⟩, fun G' s' => ⟨_, s' _ _ hG, ?_, ?_, ?_, ?_⟩⟩
        · rw [List.length_map, List.length_replicate, sizeLine_eq]
          omega
        · intro b o e n
          rw [upd_ne (ne_of_none e hD0)]
          exact s' _ _ (sG b o e n)
        · rw [upd_ne Dd.symm]
          exact s' _ _ dG
        · rw [upd_same, List.replicate_succ', List.map_append]
          rfl
      · rintro G ⟨sG, dG, hG⟩
        refine ⟨D, List.replicate kvs.length false, rfl, SqL.of hG, dG, ?_⟩
        have ea : (List.replicate kvs.length false).all id = false := by
          cases kvs with
          | nil => exact absurd rfl ne
          | cons a l => rfl
        rw [ea]
        refine k _ fun b o e => ?_
        by_cases n : b = d
        · rw [n] at e ⊢
          rw [hd] at e
          rw [upd_same]
          exact e
        · rw [upd_ne n]
          exact sG b o e n
    · exact ⟨_, rfl, x, .ty "dict", t, _, false, rfl, .ty _, ty, no, false, rfl, iteF (k H fun _ _ e => e)⟩
end
end K18
set_option maxHeartbeats 4000000
namespace K18
open PySem PySem.Spec PyProof.Rows L2 GL
abbrev sIsCond : Stmt := tp 43
abbrev sChkWhen : Stmt := tp 42
/-! ### what is no number -/
def NotA (K : PySem.W.Frag) (C : Addr) (H : Hp) (x : V) : Prop := ∃ t, TyX K H x t ∧ PySem.W.kitOne K t (.ref C) = some false
def NotI (K : PySem.W.Frag) (H : Hp) (x : V) : Prop := ∃ t b1 b2, TyX K H x t ∧ PySem.W.kitOne K t (.type "int") = some b1 ∧ (b1 = true → PySem.W.kitOne K t (.type "bool") = some b2) ∧ (b1 && !b2) = false
def NotN (K : PySem.W.Frag) (H : Hp) (x : V) : Prop := NotI K H x ∧ NotA K (aR K) H x
theorem NotA.same {K : PySem.W.Frag} {H H' : Hp} {C : Addr} {x : V} (h : NotA K C H x) (k : Same H H') : NotA K C H' x := by
  obtain ⟨t, ty, no⟩ := h
  exact ⟨t, TyX.same' ty k, no⟩
theorem NotN.same {K : PySem.W.Frag} {H H' : Hp} {x : V} (h : NotN K H x) (k : Same H H') : NotN K H' x := by
  obtain ⟨⟨t, c1, c2, ty, r⟩, a⟩ := h
  exact ⟨⟨t, c1, c2, TyX.same' ty k, r⟩, a.same k⟩
theorem IsNm.same {K : PySem.W.Frag} {H H' : Hp} {x : V} {b : Bool} (h : IsNm K H x b) (k : Same H H') : IsNm K H' x b := by
  rcases h with h | ⟨e, t, ty, no⟩
  · exact .inl h
  · exact .inr ⟨e, t, TyX.same' ty k, no⟩
section
variable {P : Program} {w : World} {K : PySem.W.Frag} {mg : Str → Option Value} {base : Heap}
/-- is_number, both answers -/
def NumB (K : PySem.W.Frag) (H : Hp) (x : V) (b : Bool) : Prop := (b = true ∧ ∃ q, NumAt K H x q) ∨ (b = false ∧ NotN K H x)
theorem NumB.same {H H' : Hp} {x : V} {b : Bool} (h : NumB K H x b) (k : Same H H') : NumB K H' x b := by
  rcases h with ⟨e, q, h⟩ | ⟨e, h⟩
  · exact .inl ⟨e, q, h.same k⟩
  · exact .inr ⟨e, h.same k⟩
def spNumB (K : PySem.W.Frag) : Sp := fun vs H Q _ => ∃ (x : V) (b : Bool), vs = [x] ∧ NumB K H x b ∧ Q (.bl b) H
theorem ok_numX {f : Addr} {fd : FuncData} (F : Fun K "is_number" "is_number" sIsNum f fd) (G : RG P w K mg base) : FnOk P w K mg base CX0 2 f fd ["value"] (fun vs H Q _ => ∃ x : V, vs = [x] ∧ NotN K H x ∧ Q (.bl false) H) := by
  obtain ⟨fI, fdI, GI, gI, bI, kI⟩ := G.isInt
  have T := G.T
  refine F.ok scIsNum (fun vs H Q E h => ?_) (fun cdv A outer s H vs Q E hr h => ?_)
  · obtain ⟨x, rfl, _⟩ := h
    rfl
  · obtain ⟨x, rfl, ⟨⟨t, c1, c2, ty, k1, k2, e⟩, ⟨t2, ty2, no⟩⟩, k⟩ := h
    refine ⟨_, pss_one (ps_ret (pe_or (pe_callB call_isi (by rfl) T.isi (by decide +kernel) (pa_cons (pv 0) (pa_cons (pe_glob (v := .ref (aR K)) rfl T.gR rfl) pa_nil)))
      (pe_one (pe_call GI hr rfl gI kI bI .nil pass0 (pa_cons (pv 0) pa_nil))))), ?_⟩
    refine ⟨_, rfl, x, .ref (aR K), t2, _, false, rfl, .own _, ty2, no, false, rfl, iteF ⟨_, rfl, x, t, c1, c2, rfl, ty, k1, k2, ?_⟩⟩
    rw [e]
    exact k
theorem FnOk.or {CX : CXT} {k : Nat} {f : Addr} {fd : FuncData} {ps : List Str} {s1 s2 : Sp} (a : FnOk P w K mg base CX k f fd ps s1) (b : FnOk P w K mg base CX k f fd ps s2) : FnOk P w K mg base CX k f fd ps (fun vs H Q E => s1 vs H Q E ∨ s2 vs H Q E) :=
  ⟨fun vs H Q E h => h.elim (a.len vs H Q E) (b.len vs H Q E), fun A outer s H args us vs Q E hr he hb hv h => h.elim (a.run A outer s H args us vs Q E hr he hb hv) (b.run A outer s H args us vs Q E hr he hb hv)⟩
theorem FnOk.imp' {CX : CXT} {k : Nat} {f : Addr} {fd : FuncData} {ps : List Str} {s1 s2 : Sp} (a : FnOk P w K mg base CX k f fd ps s1) (h : ∀ vs H Q E, s2 vs H Q E → s1 vs H Q E) : FnOk P w K mg base CX k f fd ps s2 :=
  ⟨fun vs H Q E z => a.len vs H Q E (h _ _ _ _ z), fun A outer s H args us vs Q E hr he hb hv z => a.run A outer s H args us vs Q E hr he hb hv (h _ _ _ _ z)⟩
theorem ok_numB {f : Addr} {fd : FuncData} (a : FnOk P w K mg base CX0 2 f fd ["value"] (spIsNum K)) (b : FnOk P w K mg base CX0 2 f fd ["value"] (fun vs H Q _ => ∃ x : V, vs = [x] ∧ NotN K H x ∧ Q (.bl false) H)) : FnOk P w K mg base CX0 2 f fd ["value"] (spNumB K) :=
  FnOk.imp' (FnOk.or a b) fun vs H Q E h => by
    obtain ⟨x, b, rfl, n, k⟩ := h
    rcases n with ⟨rfl, q, n⟩ | ⟨rfl, n⟩
    · exact .inl ⟨x, q, rfl, n, k⟩
    · exact .inr ⟨x, rfl, n, k⟩
/-! ### _is_condition -/
def sidesL : List Str := ["from", "above", "to", "below"]
def sideB (z : Str) : Bool := inV (.str z) (sidesL.map V.str)
/-- one of SIDES, or not -/
def SideB (K : PySem.W.Frag) (H : Hp) (x : V) (b : Bool) : Prop := (∃ z : Str, x = .str z ∧ b = sideB z) ∨ (b = false ∧ ∃ t, TyX K H x t ∧ PySem.W.kitOne K t (.type "str") = some false)
theorem SideB.same {H H' : Hp} {x : V} {b : Bool} (h : SideB K H x b) (k : Same H H') : SideB K H' x b := by
  rcases h with h | ⟨e, t, ty, no⟩
  · exact .inl h
  · exact .inr ⟨e, t, TyX.same' ty k, no⟩
/-- a condition, or not -/
def CondB (K : PySem.W.Frag) (H : Hp) (x : V) (b : Bool) : Prop := (b = false ∧ ∃ t, TyX K H x t ∧ PySem.W.kitOne K t (.type "tuple") = some false) ∨
  (∃ c xs, x = .ref c ∧ H c = some (.tup xs) ∧ ((b = false ∧ xs.length ≠ 3 ∧ xs.length ≤ 100) ∨ ∃ n s v b1 b2 b3, xs = [n, s, v] ∧ IsNm K H n b1 ∧ SideB K H s b2 ∧ NumB K H v b3 ∧ b = (b1 && (b2 && b3))))
theorem CondB.same {H H' : Hp} {x : V} {b : Bool} (h : CondB K H x b) (k : Same H H') : CondB K H' x b := by
  rcases h with ⟨e, t, ty, no⟩ | ⟨c, xs, e, hc, h⟩
  · exact .inl ⟨e, t, TyX.same' ty k, no⟩
  · refine .inr ⟨c, xs, e, k _ _ hc, ?_⟩
    rcases h with h | ⟨n, s, v, b1, b2, b3, e1, h1, h2, h3, e2⟩
    · exact .inl h
    · exact .inr ⟨n, s, v, b1, b2, b3, e1, h1.same k, h2.same k, h3.same k, e2⟩
def spCond (K : PySem.W.Frag) : Sp := fun vs H Q _ => ∃ x b, vs = [x] ∧ CondB K H x b ∧ ∀ H', Same H H' → Q (.bl b) H'
theorem scCond : FnScope ["value"] ["value"] (defScope sIsCond) := ⟨rfl, rfl, rfl, by decide +kernel, rfl, by decide +kernel, by decide +kernel⟩
structure CF (P : Program) (w : World) (K : PySem.W.Frag) (mg : Str → Option Value) (base : Heap) : Prop where
  N : NF K mg
  nm : DefF P w K mg base "is_name" 2 ["value"] (spName K)
  one : DefF P w K mg base "is_one_of" 1 ["value", "names"] (spOneOf K)
  num : DefF P w K mg base "is_number" 2 ["value"] (spNumB K)
  sides : ∃ a, mg "SIDES" = some (.ref a) ∧ ∀ H, SqT K H a (sidesL.map V.str)
theorem ok_cond {f : Addr} {fd : FuncData} (F : Fun K "_is_condition" "_is_condition" sIsCond f fd) (Y : CF P w K mg base) : FnOk P w K mg base CX0 3 f fd ["value"] (spCond K) := by
  obtain ⟨fN, fdN, GN, gN, bN, kN⟩ := Y.nm
  obtain ⟨fO, fdO, GO, gO, bO, kO⟩ := Y.one
  obtain ⟨fU, fdU, GU, gU, bU, kU⟩ := Y.num
  obtain ⟨aS, gS, hS⟩ := Y.sides
  have Z := Y.N
  refine F.ok scCond (fun vs H Q E h => ?_) (fun cdv A outer s H vs Q E hr h => ?_)
  · obtain ⟨x, b, rfl, _⟩ := h
    rfl
  · obtain ⟨x, b, rfl, cd, k⟩ := h
    refine ⟨_, pss_cons (ps_if (PW.pt (pw_or (pt_not (pt_val (pe_callB call_isi (by rfl) Z.isi (by decide +kernel) (pa_cons (pv 0) (pa_cons (pe_bltn (v := .ty "tuple") (by rfl) Z.tuple (by decide +kernel) rfl) pa_nil)))))
        (pw_or1 (pt_cmpR op_ne (pe_callB call_len_seq (by rfl) Z.len PySem.boot_len (pa_cons (pv 0) pa_nil)) pe_int (nomark _))))) (pss_one (ps_ret pe_bl)) pss_nil)
      (pss_one (ps_ret (pe_and (pe_call GN hr rfl gN kN bN .nil pass0 (pa_cons (pe_ix ix_tup (pv 0) pe_int (fun _ _ => rfl)) pa_nil))
        (pe_and (pe_call GO (hr.mono (by decide)) rfl gO kO bO .nil pass0 (pa_cons (pe_ix ix_tup (pv 0) pe_int (fun _ _ => rfl)) (pa_cons (pe_glob (v := .ref aS) rfl gS rfl) pa_nil)))
          (pe_one (pe_call GU hr rfl gU kU bU .nil pass0 (pa_cons (pe_ix ix_tup (pv 0) pe_int (fun _ _ => rfl)) pa_nil))))))), ?_⟩
    rcases cd with ⟨rfl, t, ty, no⟩ | ⟨c, xs, rfl, hc, cd⟩
    · exact ⟨_, rfl, x, .ty "tuple", t, _, false, rfl, .ty _, ty, no, false, rfl, iteT (iteT (k H fun _ _ e => e))⟩
    · refine ⟨_, rfl, .ref c, .ty "tuple", .type "tuple", _, true, rfl, .ty _, .base (.tup hc), kit_ty (by decide +kernel), true, rfl, iteF ?_⟩
      refine ⟨_, rfl, c, xs, rfl, .inr (SqT.of hc), rfl, _, rfl, ?_⟩
      rcases cd with ⟨rfl, ne, len⟩ | ⟨n, s, v, b1, b2, b3, rfl, h1, h2, h3, rfl⟩
      · have e : (!decide (V.int (xs.length : Int) = V.int 3)) = true := by
          rw [decide_eq_false (fun z => ne (by injection z with z; omega))]
          rfl
        rw [e]
        exact iteT (k H fun _ _ e => e)
      · refine iteF ?_
        refine ⟨_, rfl, c, _, _, _, rfl, rfl, SqT.of hc, rfl, n, b1, rfl, h1, fun H1 s1 => ⟨_, rfl, ?_⟩⟩
        cases b1 with
        | false => exact iteF (k _ s1)
        | true =>
          refine iteT ?_
          have hc1 := s1 _ _ hc
          refine ⟨_, rfl, c, _, _, _, rfl, rfl, SqT.of hc1, rfl, ?_⟩
          rcases h2.same s1 with ⟨z, rfl, rfl⟩ | ⟨rfl, t, ty, no⟩
          · refine ⟨.str z, aS, sidesL, rfl, hS _, .inl ⟨z, rfl, sideB z, rfl, ?_⟩⟩
            cases e : sideB z with
            | false => exact iteF (by rw [e] at k; exact k _ s1)
            | true =>
              rw [e] at k
              exact iteT ⟨_, rfl, c, _, _, _, rfl, rfl, SqT.of hc1, rfl, v, b3, rfl, h3.same s1, k _ s1⟩
          · exact ⟨s, aS, sidesL, rfl, hS _, .inr ⟨t, ty, no, false, rfl, iteF (k _ s1)⟩⟩
end
end K18
set_option maxHeartbeats 4000000
/-! enumerate(t), t a tuple. -/
namespace GL
open PySem PySem.Spec PyProof.Rows L2
theorem meets_en1 {v : Value} {o : Obj} {H : Heap → Prop} (B : Begins v o H) :
    Meets (Builtin.«enumerate.__new__» ⟨[.type "enumerate", v], []⟩) (fun _ R s => H s.heap ∧
      R (.ok (.ret (.ref (s.heap.push o).objs.size))) { s with heap := (s.heap.push o).push { cls := .type "enumerate", data := .fields #[.none, .bool false, .ref s.heap.objs.size, rawInt 0, .none, .none] } }) :=
  .of_wp fun prog w A R s h => by
    obtain ⟨hp, g, d, tk, os⟩ := s; obtain ⟨h1, h⟩ := h
    have hsub := sub_enumerate
    have q1 : ∀ {A' : Around} {E : Value → Shared → Prop} {Q : Value → Shared → Prop}, Q (.ref hp.objs.size) ⟨hp.push o, g, d, tk, os⟩ → wpAny (model prog w) A' (pyIter v) Q E ⟨hp, g, d, tk, os⟩ :=
      fun q => B.iter prog w _ _ ⟨hp, g, d, tk, os⟩ _ h1 q
    wp_walk using q1
    refine wpAny_stack_any fun st => wpAny_pure ?_
    split
    · rename_i c _ _ _ _ _
      cases (c == Value.type "enumerate")
      · wp_walk using q1
        exact ⟨_, rfl, h⟩
      · wp_walk using q1
        exact ⟨_, rfl, h⟩
    · wp_walk using q1
      exact ⟨_, rfl, h⟩
theorem call_en1 {prog : Program} {w : World} {A : Around} {E : Value → Shared → Prop} {s : Shared} {v : Value} {o : Obj} {H : Heap → Prop} {Q : Value → Shared → Prop} (B : Begins v o H) (h1 : H s.heap)
    (h : ∀ h', IsEnum h' (s.heap.objs.size + 1) s.heap.objs.size 0 .none → h'.get? s.heap.objs.size = some o → (∀ b o, s.heap.get? b = some o → h'.get? b = some o) → Q (.ref (s.heap.objs.size + 1)) { s with heap := h' }) :
    wpAny (model prog w) A (call (.type "enumerate") [v]) Q E s := by
  refine callType_new F.called_enumerate (by decide) (F.typeCall_enumerate_1 _) (F.newCall_enumerate_1 _) (fun obj => F.args_object_init_2 obj _) F.entry_enumerate_new
    (meets_en1 B) ⟨h1, ?_⟩
  have hz : (s.heap.push o).objs.size = s.heap.objs.size + 1 := Heap.size_push ..
  show _ ∧ _
  rw [hz]
  have he : IsEnum ((s.heap.push o).push { cls := .type "enumerate", data := .fields #[.none, .bool false, .ref s.heap.objs.size, rawInt 0, .none, .none] }) (s.heap.objs.size + 1) s.heap.objs.size 0 .none := by
    have := Heap.get?_push_size (s.heap.push o) (o := { cls := .type "enumerate", data := .fields #[.none, .bool false, .ref s.heap.objs.size, rawInt 0, .none, .none] }) rfl
    rw [hz] at this; exact this
  exact ⟨⟨_, he, rfl⟩, h _ he (Heap.get?_push_of_some _ (Heap.get?_push_size _ B.free)) fun b o x => Heap.get?_push_of_some _ (Heap.get?_push_of_some _ x)⟩
/-- the tuple at a, each item in a new pair -/
def ItteT (K : PySem.W.Frag) (a : Addr) : It :=
  ⟨fun i H => ∃ (xs : List V) (x : V), SqT K H a xs ∧ xs[i]? = some x, fun i H v H' => ∃ T x, v = .ref T ∧ H T = none ∧ H' = upd H T (.tup [.int (i : Nat), x]) ∧ ∀ xs, SqT K H a xs → xs[i]? = some x, fun i H => ∃ xs : List V, SqT K H a xs ∧ xs.length = i⟩
theorem turn_enumT {P : Program} {w : World} {K : PySem.W.Frag} {elts : List Expr} {kk : Nat} {tpos : Pos} (a e it : Addr) :
    Turn P w K (.Tuple elts kk tpos) (ItteT K a) [e, it] e (fun i h => (∃ old, IsEnum h e it ((i : Nat) : Int) old) ∧ h.IsTupleIter it a i ∧ e ≠ it) where
  mem := by simp
  obj := fun i h st b hb => by
    obtain ⟨⟨old, he⟩, ⟨o, ho, hc, hd⟩, _⟩ := st
    have e' : b = e ∨ b = it := by simpa using hb
    rcases e' with z | z
    · rw [z]; exact ⟨_, he, fun v q => nomatch q⟩
    · rw [z]; exact ⟨o, ho, fun v q => by rw [hd] at q; cases q⟩
  keep := fun i h h' st k => let ⟨⟨old, he⟩, hi, hne⟩ := st; ⟨⟨old, k e (by simp) _ he⟩, hi.at fun o q => k it (by simp) o q, hne⟩
  item := by
    intro X hP hw hK hc i pins s σ H E I hf st hg
    subst hP hw hK
    obtain ⟨⟨old, he⟩, hit, hne⟩ := st
    obtain ⟨xs, x, hq, hx⟩ := hg
    obtain ⟨its, rv, p, hz⟩ := I.tuple hq
    obtain ⟨u, hu, ru⟩ := rv.get hx
    have hel : e < s.heap.objs.size := Heap.lt_size he
    have hil : it < s.heap.objs.size := by obtain ⟨_, q, _⟩ := hit; exact Heap.lt_size q
    have pT : s.heap.IsTuple a its.toArray := p
    have ait : a ≠ it := by
      rintro rfl
      obtain ⟨o1, q1, c1, _⟩ := hit
      obtain ⟨o2, q2, c2, _⟩ := pT
      rw [q1] at q2
      cases q2
      have z : (Value.type "tuple_iterator") = .type "tuple" := c1.symm.trans c2
      injection z with z
      exact absurd z (by decide)
    have ae : a ≠ e := by
      rintro rfl
      obtain ⟨o2, q2, c2, _⟩ := pT
      have he' : s.heap.get? a = some _ := he
      rw [he'] at q2
      cases q2
      have z : (Value.type "enumerate") = .type "tuple" := c2
      injection z with z
      exact absurd z (by decide)
    have ef : e ∉ [it, a] := by
      intro z
      simp only [List.mem_cons, List.not_mem_nil, or_false] at z
      rcases z with z | z
      · exact hne z
      · exact ae z.symm
    have iu : i < its.toArray.size := by
      have := (List.getElem?_eq_some_iff.mp hu).1
      simpa using this
    refine wpAny_pyNext_enum_itemD (Draws.tuple (A := X.A.in1) (I.ok.hd hc) it a ait its.toArray) he ⟨hit, pT⟩ iu hne ef fun x' h' tk hx' ho hst hT hsz hk => ?_
    have ex : x' = u := by
      have q : its.toArray[i]? = some x' := hx'
      rw [show its.toArray[i]? = some u by simpa using hu] at q
      exact (Option.some.inj q).symm
    subst ex
    refine ⟨_, rfl, wpAny_letOwnedTupleGo_enum (s := { s with heap := h', toks := tk + 1 }) ho fun h'' he' sb => ?_⟩
    have hT2 : h''.get? s.heap.objs.size = some { cls := .type "tuple", data := .seq #[.int i tk, x'] } := (sb.2 _ (Nat.ne_of_gt hel)).trans hT
    have new : ObjOk X.prog X.w (upd H s.heap.objs.size (.tup [.int (i : Nat), x])) h'' s.heap.objs.size (.tup [.int (i : Nat), x]) :=
      ⟨by show 2 ≤ sizeLine; decide, [.int i tk, x'], .cons ⟨_, rfl⟩ (.cons ru .nil), ⟨_, hT2, rfl, _, rfl⟩⟩
    have I1 : Inv X pins σ (upd H s.heap.objs.size (.tup [.int (i : Nat), x])) { s with heap := h'', toks := tk + 1 } :=
      I.turnedNew (ch := [e, it]) (fun b ob hb q => (sb.2 b (fun z => hb (by simp [z]))).trans (hk b ob (fun z => hb (by simp [z])) (fun z => hb (by simp [z])) q)) hf (Nat.le_refl _) new
    refine ⟨.ref s.heap.objs.size, _, I1, rfl, ⟨_, x, rfl, I.hok.fresh (Nat.le_refl _), rfl, fun ys hy => by rw [I.tuple_inj hy hq]; exact hx⟩, ⟨⟨x', ?_⟩, hst.1.at fun o q => (sb.2 it (Ne.symm hne)).trans q, hne⟩, fun b hb => ?_⟩
    · have e1 : ((i + 1 : Nat) : Int) = (i : Int) + 1 := by omega
      rw [e1]; exact he'
    · have hb' : b < s.heap.objs.size := by
        have e' : b = e ∨ b = it := by simpa using hb
        rcases e' with z | z
        · rw [z]; exact hel
        · rw [z]; exact hil
      rw [upd_ne (Nat.ne_of_lt hb')]
      exact (hf b hb).1
  done := by
    intro X hP hw hK hc i pins s σ H E I hf st hg
    subst hP hw hK
    obtain ⟨⟨old, he⟩, hit, hne⟩ := st
    obtain ⟨xs, hq, hx⟩ := hg
    obtain ⟨its, rv, p, hz⟩ := I.tuple hq
    obtain ⟨f0, f1, f2, f3, f4, f5⟩ := hf it (by simp)
    have hl := rv.length
    have pT : s.heap.IsTuple a its.toArray := p
    have ait : a ≠ it := by
      rintro rfl
      obtain ⟨o1, q1, c1, _⟩ := hit
      obtain ⟨o2, q2, c2, _⟩ := pT
      rw [q1] at q2
      cases q2
      have z : (Value.type "tuple_iterator") = .type "tuple" := c1.symm.trans c2
      injection z with z
      exact absurd z (by decide)
    have iz : i = its.toArray.size := by
      rw [List.size_toArray, ← hl]
      exact hx.symm
    subst iz
    exact wpAny_pyNext_enum_endD (Draws.tuple (A := X.A.in1) (I.ok.hd hc) it a ait its.toArray) he ⟨hit, pT⟩ fun h' eb => ⟨rfl, I.turned (t' := s.toks) (fun b o hb q => eb b o hb q) f0 f1 f3 f4 f5⟩
  self := fun A i s Q E st h => let ⟨⟨_, he⟩, _⟩ := st; wpAny_pyIter_enum he h
/-- enumerate(e): a list or a tuple -/
def iEnumT (K : PySem.W.Frag) (ta : TA) : TI := fun σ H R => ta σ H fun vs H1 => ∃ a xs, vs = [.ref a] ∧ ((SqL K H1 a xs ∧ R (Ite K a) H1) ∨ (SqT K H1 a xs ∧ R (ItteT K a) H1))
theorem pi_enumT {X : Cx} {e : Expr} {ta : TA} {p pos tpos : Pos} {elts : List Expr} {kk : Nat} (hg : Gl X "enumerate") (hm : X.mg "enumerate" = none) (ha : PA X [e] ta) (hs : starEach [e] X.env = [(false, eval e X.env)] := by rfl) :
    PI X (.Tuple elts kk tpos) (.Call (.Name "enumerate" p) [e] [] pos) (iEnumT X.K ta) := by
  refine ⟨fun pins s σ H R I h => ?_⟩
  refine Call_ (ld_blt I hg hm boot_enumerate (PyProof.Rows.callWith_type1 (thn (ha.run pos pins s σ H _ I h) fun us s1 ⟨vs, H1, I1, r1, q1⟩ => ?_) hs rfl))
  obtain ⟨a, xs, ex, q⟩ := q1
  subst ex
  cases r1 with
  | cons r rr =>
    cases rr
    cases r
    have fin : ∀ b, (b = s1.heap.objs.size + 1 ∨ b = s1.heap.objs.size) → FpOk X pins H1 b := fun b e' => by
      have hle : s1.heap.objs.size ≤ b := by
        rcases e' with z | z
        · rw [z]; exact Nat.le_add_right _ _
        · rw [z]; exact Nat.le_refl _
      exact I1.fpOk hle (I1.hok.fresh hle)
    rcases q with ⟨hq, q⟩ | ⟨hq, q⟩
    · obtain ⟨its, rv, p', hz⟩ := I1.list hq
      refine call_enumerate_list p'.isList fun h' he hit hsz hk => wpAny_pyIter_enum he ?_
      have I2 : Inv X pins σ H1 { s1 with heap := h' } := I1.kept (t' := s1.toks) hk
      exact ⟨s1.heap.objs.size + 1, [s1.heap.objs.size + 1, s1.heap.objs.size], _, _, H1, rfl, I2, turn_enum a (s1.heap.objs.size + 1) s1.heap.objs.size, ⟨⟨.none, he⟩, hit, Nat.succ_ne_self _⟩, fun b hb => fin b (by simpa using hb), q⟩
    · obtain ⟨its, rv, p', hz⟩ := I1.tuple hq
      refine call_en1 (begins_tuple a its.toArray) (show s1.heap.IsTuple a its.toArray from p') fun h' he hit hk => wpAny_pyIter_enum he ?_
      have I2 : Inv X pins σ H1 { s1 with heap := h' } := I1.kept (t' := s1.toks) hk
      exact ⟨s1.heap.objs.size + 1, [s1.heap.objs.size + 1, s1.heap.objs.size], _, _, H1, rfl, I2, turn_enumT a (s1.heap.objs.size + 1) s1.heap.objs.size, ⟨⟨.none, he⟩, ⟨_, hit, rfl, rfl⟩, Nat.succ_ne_self _⟩, fun b hb => fin b (by simpa using hb), q⟩
theorem walk_enumT {K : PySem.W.Frag} {a : Addr} {xs : List V} : Walk (ItteT K a) xs.length (fun H => SqT K H a xs) (YPair (fun i => some (.int (i : Nat))) (fun i => xs[i]?)) :=
  ⟨fun i H hi h => ⟨xs, xs[i], h, by simp [hi]⟩, fun H h => ⟨xs, h, rfl⟩, fun i H x H' hi h y => by
    obtain ⟨T, z, e, n, e2, q⟩ := y
    exact ⟨T, _, z, e, n, e2, rfl, q xs h⟩⟩
end GL
set_option maxHeartbeats 4000000
/-! A def with one parameter and a rest (*rest): what is given behind the first stands in a new tuple. -/
namespace GL
open PySem PySem.Spec PyProof.Rows L2
/-- an exception of a call at a heap that has grown by one tuple is one of the call at the heap before -/
def Grown (CX : CXT) : Prop := ∀ (P : Program) (w : World) (outer : List Env) (H : Hp) (p : Addr) (xs : List V) (s s1 : Shared) (E : XK) (e : Value) (s' : Shared), HOk P w H s.heap → (∀ b u, s.heap.get? b = some u → s1.heap.get? b = some u) → s.heap.objs.size ≤ p → s1.os = s.os →
  CX outer (upd H p (.tup xs)) s1 E e s' → CX outer H s E e s'
theorem grown0 : Grown CX0 := fun _ _ _ _ _ _ _ _ _ _ _ _ _ _ _ h => h
theorem grownX {P : Program} {w : World} {outer : List Env} {H : Hp} {p : Addr} {xs : List V} {s s1 : Shared} {E : XK} {e : Value} {s' : Shared} (hok : HOk P w H s.heap) (kp : ∀ b u, s.heap.get? b = some u → s1.heap.get? b = some u) (hp : s.heap.objs.size ≤ p) (os : s1.os = s.os)
    (h : L2.CX P w outer (upd H p (.tup xs)) s1 E e s') : L2.CX P w outer H s E e s' := by
  obtain ⟨a, B, H2, cls, d, rfl, fly, ok2, ub, na, os2, bare, q⟩ := h
  have nP : H p = none := hok.fresh hp
  have lt : ∀ b o, s.heap.get? b = some o → b ≠ p := fun b o z => Nat.ne_of_lt (Nat.lt_of_lt_of_le (Heap.lt_size z) hp)
  have at_ : ∀ b u, H b = some u → upd H p (.tup xs) b = some u := fun b u z => by rw [upd_ne (ne_of_none z nP)]; exact z
  have un : ∀ b o, s.heap.get? b = some o → H b = none → upd H p (.tup xs) b = none := fun b o z n => by rw [upd_ne (lt b o z)]; exact n
  exact ⟨a, B, H2, cls, d, rfl, fly, ok2,
    { keep := fun b o z n m => ub.keep b o (kp b o z) (un b o z n) m
      slot := fun b o z m => ub.slot b o (kp b o z) m
      free := fun b o z n => ub.free b o (kp b o z) (un b o z n)
      there := fun b o z m => ub.there b o (kp b o z) m
      tups := fun b ys z => ub.tups b ys (at_ b _ z)
      frzs := fun b o u z => ub.frzs b o u (at_ b _ z)
      tbls := fun b ps z => ub.tbls b ps (at_ b _ z) }, na, os2.trans os, bare, q⟩
section
variable {P : Program} {w : World} {K : PySem.W.Frag} {mg : Str → Option Value} {base : Heap}
/-- the state behind the binding: the rest's tuple is new -/
theorem env0_tup {A : Around} {outer : List Env} {s : Shared} {H : Hp} {us : List Value} {vs : List V} (e0 : Env0 P w K mg base A outer s H) (r : Vals vs us) (small : vs.length ≤ sizeLine) :
    Env0 P w K mg base A outer { s with heap := s.heap.push { cls := .type "tuple", data := .seq us.toArray } } (upd H s.heap.objs.size (.tup vs)) := by
  have kp : ∀ b o, s.heap.get? b = some o → (s.heap.push { cls := .type "tuple", data := .seq us.toArray }).get? b = some o := fun b o z => Heap.get?_push_of_some _ z
  refine ⟨e0.frames, e0.mod, fun b o z => ?_, Nat.le_trans e0.bsz (by rw [Heap.size_push]; exact Nat.le_succ _), ?_, fun b hb => ?_, ?_, e0.bare⟩
  · obtain ⟨z1, z2⟩ := e0.bs b o z
    exact ⟨kp b o z1, by rw [upd_ne (Nat.ne_of_lt (Heap.lt_size z1))]; exact z2⟩
  · exact Heap.FunFrames.of_keeps (fun b o z _ => ⟨o, kp b o z, rfl⟩) e0.funs
  · have z := e0.frf b hb
    obtain ⟨_, o, z1, _⟩ := e0.funs.mem hb
    rw [upd_ne (Nat.ne_of_lt (Heap.lt_size z1))]
    exact z
  · exact e0.hok.laid (P := P) (w := w) kp (Nat.le_refl _) ⟨small, us, r, ⟨_, Heap.get?_push_size _ rfl, rfl, _, rfl⟩⟩
/-- what such a def binds -/
def RestBinds (fd : FuncData) (a r : Str) : Prop := ∀ (u : Value) (us : List Value), bindArgs fd ⟨u :: us, []⟩ = (newTuple us >>= fun t => pure [(a, u), (r, t)])
theorem okV {CX : CXT} {k : Nat} {f : Addr} {x qual a r : Str} {params : Arguments} {body : List Stmt} {scope : Scope} {fd : FuncData} {N : List Str} {sp : Sp} (F : FunD K x qual params body scope [] [] f fd) (S : FnScope N [a, r] scope) (hb : RestBinds fd a r)
    (grown : ∀ (outer : List Env) (H : Hp) (p : Addr) (xs : List V) (s s1 : Shared) (E : XK) (e : Value) (s' : Shared), HOk P w H s.heap → (∀ b u, s.heap.get? b = some u → s1.heap.get? b = some u) → s.heap.objs.size ≤ p → s1.os = s.os → CX outer (upd H p (.tup xs)) s1 E e s' → CX outer H s E e s')
    (len : ∀ vs H Q E, sp vs H Q E → ∃ v ws, vs = v :: ws ∧ ws.length ≤ sizeLine)
    (hbody : ∀ (cdv : Value) (A : Around) (outer : List Env) (s : Shared) (H : Hp) (v : V) (ws : List V) (Q : VK) (E : XK) (p : Addr), Room k (A.deeper (envOfC qual scope s.heap.objs.size f cdv)) → H p = none → sp (v :: ws) H Q E →
      ∃ t, PSs (cxOf CX P w K mg base N qual scope f cdv A outer s (upd H p (.tup ws)) E) body t ∧ t { nx := fun _ H' => Q .non H', rt := Q } (start N [v, .ref p]) (upd H p (.tup ws))) :
    FnR P w K mg base CX (k + 1) f sp := by
  intro A outer s H us vs Q E hr e0 rv hsp
  obtain ⟨v, ws, rfl, small⟩ := len _ _ _ _ hsp
  cases rv with
  | @cons _ u _ rest r1 r2 =>
    obtain ⟨oc, od, dV, kV, doc, pm, an, cdv, ct, osl, rfl, lk, hcd, _, _⟩ := F.ex
    have e1 := env0_tup e0 r2 small
    have kp : ∀ b o, s.heap.get? b = some o → (s.heap.push { cls := .type "tuple", data := .seq rest.toArray }).get? b = some o := fun b o z => Heap.get?_push_of_some _ z
    have inS : K.In s.heap := e0.mod.kin.keeps fun b o e => (e0.bs b o e).1
    have noLim : s.heap.NoLimit := e0.mod.nolimit.keeps fun b o e => (e0.bs b o e).1
    have fresh : H s.heap.objs.size = none := e0.hok.fresh (Nat.le_refl _)
    have rel : Vals [v, V.ref s.heap.objs.size] [u, Value.ref s.heap.objs.size] := .cons r1 (.cons rfl .nil)
    have kinds : ∀ y ∈ [a, r].zip [u, Value.ref s.heap.objs.size], scope.names.lookup y.1 = some .local ∨ (scope.names.lookup y.1 = some .cell ∧ ((cellsFrom ((s.heap.push { cls := .type "tuple", data := .seq rest.toArray }).objs.size + 1) scope.names []).lookup y.1).isSome = true) := by
      intro y hy
      exact (S.par y.1 (List.of_mem_zip (a := y.1) (b := y.2) hy).1).imp id fun q => ⟨q, PySem.W.cellsFrom_some _ _ _ (.inl q)⟩
    apply codeAny_call_function hr.depth (inS _ _ lk) rfl S.co S.gen rfl (PySem.W.codeRec_of inS hcd)
    rw [hb u rest]
    apply wpAny_bind
    refine wpAny_newObj_type ?_ (by show rest.toArray.size ≤ sizeLine; rw [List.size_toArray, ← Paired.length r2]; exact small)
    apply wpAny_pure
    refine wpAny_newFunctionEnv_cells (s := { s with heap := s.heap.push { cls := .type "tuple", data := .seq rest.toArray } }) S.kind kinds ?_
    intro env he s1 entered
    cases he
    refine ⟨(noLim.keeps kp).keeps entered.toInCall.keep, codeAny_func ?_⟩
    obtain ⟨t, tOk, tRun⟩ := hbody cdv A outer { s with heap := s.heap.push { cls := .type "tuple", data := .seq rest.toArray } } H v ws Q E s.heap.objs.size (hr.deeper _) fresh hsp
    have atStart : Inv (cxOf CX P w K mg base N qual scope f cdv A outer { s with heap := s.heap.push { cls := .type "tuple", data := .seq rest.toArray } } (upd H s.heap.objs.size (.tup ws)) E) [] (start N [v, V.ref s.heap.objs.size]) (upd H s.heap.objs.size (.tup ws)) s1 := inv_start S hr.hd e1 rfl rel entered
    have un : Un (frs outer) [] H (upd H s.heap.objs.size (.tup ws)) s.heap (s.heap.push { cls := .type "tuple", data := .seq rest.toArray }) := Un.laid kp (Nat.le_refl _) fresh
    refine wpAny_mono (tOk.run [] s1 _ _ _ atStart tRun) (fun fl s' hs => ?_) fun e s' hs => ?_
    · match fl, hs with
      | .ret z, hs =>
        obtain ⟨y, σ', H', J, q1, q⟩ := hs
        exact ⟨y, H', J.os, J.bare, un.trans J.base, J.hok, q1, q⟩
      | .next, hs =>
        obtain ⟨σ', H', J, q⟩ := hs
        exact ⟨V.non, H', J.os, J.bare, un.trans J.base, J.hok, rfl, q⟩
      | .brk, hs =>
        obtain ⟨_, _, _, q⟩ := hs
        exact False.elim q
      | .cont, hs =>
        obtain ⟨_, _, _, q⟩ := hs
        exact False.elim q
    · have up : ∀ e' s'', CX outer (upd H s.heap.objs.size (.tup ws)) { s with heap := s.heap.push { cls := .type "tuple", data := .seq rest.toArray } } E e' s'' → CX outer H s E e' s'' := fun e' s'' z => grown outer H s.heap.objs.size ws s { s with heap := s.heap.push { cls := .type "tuple", data := .seq rest.toArray } } E e' s'' e0.hok kp (Nat.le_refl _) rfl z
      exact wpAny_mono hs (fun _ s'' z => up _ _ z) fun e' s'' z => up _ _ z
end
end GL
set_option maxHeartbeats 4000000
/-! raise C() of a class of errors that has nothing of its own. -/
namespace GL
open PySem PySem.Spec PyProof.Rows L2
section
variable {X : Cx}
theorem pmk_own0 {C : Addr} {bmB : List Value} {B newId initId : String} {x : Str} {p pos : Pos} (F : ExcBaseFacts B newId initId bmB) (own : PySem.W.excIn X.K C bmB newId = true) (gC : X.mg x = some (.ref C)) (keep : PySem.W.keepIn X.K (.ref C) = true) (r : Raises X (.ref C)) (hg : Gl X x)
    (hdb : (x == ("__debug__" : Str)) = false := by decide) : PMk X (.Call (.Name x p) [] [] pos) (fun _ H Q => Q (.ref C) none H) := by
  intro pins s σ H Q I q
  apply wpAny_Call_Name_kw
  refine ld_glob I hg gC ?_ hdb
  refine PySem.W.callWith_K0 I.kIn keep ?_
  show wpAny _ _ (PySem.call (.ref C) []) _ _ _
  obtain ⟨bm, N, nm, qn, bs, hdct, sn, sub, ab, col, dd, k0, k1, k2, k3, k5, mN, hC, hN, hni, T⟩ := exc_obj I.kIn own
  refine wpAny_call_exc_subT F T hC hN hni (fun h' e hm => ?_) (by show 0 ≤ sizeLine; exact Nat.zero_le _)
  exact mk_of I hm r q (I.hok.gone hm.new)
end
end GL
set_option maxHeartbeats 4000000
namespace K18
open PySem PySem.Spec PyProof.Rows L2 GL
abbrev aIA (K : PySem.W.Frag) : Addr := He.ga K "InvalidName"
abbrev aIL (K : PySem.W.Frag) : Addr := He.ga K "InvalidRule"
abbrev aTM (K : PySem.W.Frag) : Addr := He.ga K "TooMany"
/-- what goes out: an error of the class at C with these fields; all stands -/
def outW (C : Addr) (fs : List (Str × V)) (H : Hp) (E : XK) : Prop := ∀ d H2, Same H H2 → H d = none → H2 d = some (.xd fs) → E (.ref C) (some d) H2
theorem none_of {H H1 : Hp} {p : Addr} (k : Same H H1) (n : H1 p = none) : H p = none := by
  cases e : H p with
  | none => rfl
  | some o =>
    have z := k _ _ e
    rw [n] at z
    cases z
theorem outW.same {C : Addr} {fs : List (Str × V)} {H H' : Hp} {E : XK} (h : outW C fs H E) (k : Same H H') : outW C fs H' E := fun d H2 k2 n e => h d H2 (k.trans k2) (none_of k n) e
theorem passE {X : Cx} {E : XK} (tk : Takes X fun cls d _ H => E cls d H) : Passes (L2.CX X.prog X.w) X E := passes_call tk fun _ _ _ _ h => h
def MkE (P : Program) (w : World) (K : PySem.W.Frag) (mg : Str → Option Value) (base : Heap) (C : Addr) (fl : List Str) : Prop := ∃ fI fd, PySem.W.findIn K (.ref C) "__init__" = some (some (.ref fI)) ∧ PySem.W.typeIn K (.ref fI) = some (.type "function") ∧ FnOk P w K mg base CX0 1 fI fd ("self" :: fl) (spInit C fl) ∧ Binds K fd ("self" :: fl) []
/-- the errors of rules -/
structure EM (P : Program) (w : World) (K : PySem.W.Frag) (mg : Str → Option Value) (base : Heap) : Prop where
  xA : XC K (aIA K) .ve
  xL : XC K (aIL K) .ve
  xT : XC K (aTM K) .ve
  gA : mg "InvalidName" = some (.ref (aIA K))
  gL : mg "InvalidRule" = some (.ref (aIL K))
  gT : mg "TooMany" = some (.ref (aTM K))
  mA : MkE P w K mg base (aIA K) ["value"]
  mL : MkE P w K mg base (aIL K) ["part", "position"]
  mT : MkE P w K mg base (aTM K) ["kind", "limit"]
section
variable {P : Program} {w : World} {K : PySem.W.Frag} {mg : Str → Option Value} {base : Heap}
/-- nothing goes out -/
theorem FnOk.ground {k : Nat} {f : Addr} {fd : FuncData} {ps : List Str} {sp : Sp} (F : FnOk P w K mg base (L2.CX P w) k f fd ps sp) : FnOk P w K mg base CX0 k f fd ps (fun vs H Q _ => sp vs H Q E0) :=
  ⟨fun vs H Q E h => F.len vs H Q E0 h, fun A outer s H args us vs Q E hr he hb hv hs => codeAny_mono (F.run A outer s H args us vs Q E0 hr he hb hv hs) fun r s' h => match r, h with
    | .error e, h => by
      obtain ⟨_, _, _, _, _, _, _, _, _, _, _, _, z⟩ := h
      exact z.elim
    | .ok (.ret _), h => h
    | .ok .next, h => False.elim h
    | .ok .brk, h => False.elim h
    | .ok .cont, h => False.elim h⟩
/-! ### _check_when -/
def rFs (part : Str) (v : V) : List (Str × V) := [("position", v), ("part", .str part)]
/-- conditions, or the first that is none -/
def spChkWhen (K : PySem.W.Frag) : Sp := fun vs H Q E => ∃ x, vs = [x] ∧
  ((∃ t, TyX K H x t ∧ PySem.W.kitAny K t [.type "list", .type "tuple"] = some false ∧ outW (aIL K) (rFs "when" .non) H E) ∨
   ∃ (a : Addr) (xs : List V) (t : Value), x = .ref a ∧ TyX K H x t ∧ PySem.W.kitAny K t [.type "list", .type "tuple"] = some true ∧ (SqL K H a xs ∨ SqT K H a xs) ∧ xs.length ≤ 1000 ∧
    (((∀ v ∈ xs, CondB K H v true) ∧ ∀ H', Same H H' → Q .non H') ∨ ∃ (j : Nat) (v : V), xs[j]? = some v ∧ CondB K H v false ∧ (∀ (i : Nat) (u : V), i < j → xs[i]? = some u → CondB K H u true) ∧ outW (aIL K) (rFs "when" (.int (j : Nat))) H E))
abbrev nChkWhen : List Str := ["when", "position", "value"]
theorem scChkWhen : FnScope nChkWhen ["when"] (defScope sChkWhen) := ⟨rfl, rfl, rfl, by decide +kernel, rfl, by decide +kernel, by decide +kernel⟩
theorem ok_chkWhen {f : Addr} {fd : FuncData} (F : Fun K "_check_when" "_check_when" sChkWhen f fd) (il : DefF P w K mg base "is_list" 1 ["value"] (spIsList K)) (ic : DefF P w K mg base "_is_condition" 3 ["value"] (spCond K)) (gE : mg "enumerate" = none) (Z : EM P w K mg base) :
    FnOk P w K mg base (L2.CX P w) 4 f fd ["when"] (spChkWhen K) := by
  obtain ⟨fL, fdL, GL_, gL, bL, kL⟩ := il
  obtain ⟨fC, fdC, GC_, gC, bC, kC⟩ := ic
  obtain ⟨fI, fdI, i1, i2, GI, bI⟩ := Z.mL
  refine F.okX scChkWhen (fun vs H Q E h => ?_) (fun cdv A outer s H vs Q E hr h => ?_)
  · obtain ⟨x, rfl, _⟩ := h
    rfl
  · obtain ⟨x, rfl, h⟩ := h
    have r2 : Room 2 _ := hr.mono (by decide)
    refine ⟨_, pss_cons (ps_if (pt_not (pt_val (pe_call GL_ (hr.mono (by decide)) rfl gL kL bL .nil pass0 (pa_cons (pv 0) pa_nil)))) (pss_one (ps_raise rfl (takes_of rfl rfl rfl rfl) (pmk_x Z.xL i1 i2 GI r2 bI rfl Z.gL (pa_cons pe_str (pa_cons pe_non pa_nil))))) pss_nil)
      (pss_one (ps_for (passes_of rfl) rfl (pi_enumT rfl gE (pa_cons (pv 0) pa_nil)) (pg_tup (by rfl) (pgs_cons (pg_name (i := 1) scChkWhen.nd rfl (.inl rfl)) (pgs_cons (pg_name (i := 2) scChkWhen.nd rfl (.inl rfl)) pgs_nil)))
        (pss_one (ps_if (pt_not (pt_val (pe_call GC_ hr rfl gC kC bC .nil pass0 (pa_cons (pv 2) pa_nil)))) (pss_one (ps_raise rfl (takes_of rfl rfl rfl rfl) (pmk_x Z.xL i1 i2 GI r2 bI rfl Z.gL (pa_cons pe_str (pa_cons (pv 1) pa_nil))))) pss_nil)))), ?_⟩
    rcases h with ⟨t, ty, e, out⟩ | ⟨a, xs, t, rfl, ty, e, sq, len, h⟩
    · exact ⟨_, rfl, x, t, false, rfl, ty, e, fun H1 s1 => ⟨_, rfl, iteT ⟨rfl, by show 2 ≤ 1000; decide, fun d H2 k2 n2 e2 => (out.same s1) d H2 k2 n2 e2⟩⟩⟩
    refine ⟨_, rfl, .ref a, t, true, rfl, ty, e, fun H1 s1 => ⟨_, rfl, iteF ?_⟩⟩
    rcases h with ⟨all, k⟩ | ⟨j, v, hj, bad, bef, out⟩
    · rcases sq with sq | sq
      · have hq := L2.SqL.ext sq s1
        refine ⟨_, rfl, a, xs, rfl, .inl ⟨hq, ?_⟩⟩
        refine for_it walk_enum (fun i z G => Same H1 G ∧ ∃ v1 v2, z = [some (.ref a), v1, v2]) ⟨fun _ _ e => e, none, none, rfl⟩ (fun i z G _ h => L2.SqL.ext hq h.1) ?_ ?_
        · rintro i y z G G' hi ⟨sG, v1, v2, rfl⟩ ⟨T, p, u, rfl, nT, rfl, e1, e2⟩
          cases e1
          have uT := same_new (o := .tup [V.int (i : Nat), u]) nT
          refine ⟨T, _, rfl, SqT.of upd_same, rfl, _, _, rfl, _, _, rfl, rfl, ?_⟩
          have sA := (s1.trans sG).trans uT
          exact ⟨_, rfl, u, true, rfl, (all u (List.mem_of_getElem? e2)).same sA, fun G2 s2 => ⟨_, rfl, iteF ⟨(sG.trans uT).trans s2, _, _, rfl⟩⟩⟩
        · rintro z G ⟨sG, v1, v2, rfl⟩
          exact k G (s1.trans sG)
      · have hq := L2.SqT.ext sq s1
        refine ⟨_, rfl, a, xs, rfl, .inr ⟨hq, ?_⟩⟩
        refine for_it walk_enumT (fun i z G => Same H1 G ∧ ∃ v1 v2, z = [some (.ref a), v1, v2]) ⟨fun _ _ e => e, none, none, rfl⟩ (fun i z G _ h => L2.SqT.ext hq h.1) ?_ ?_
        · rintro i y z G G' hi ⟨sG, v1, v2, rfl⟩ ⟨T, p, u, rfl, nT, rfl, e1, e2⟩
          cases e1
          have uT := same_new (o := .tup [V.int (i : Nat), u]) nT
          refine ⟨T, _, rfl, SqT.of upd_same, rfl, _, _, rfl, _, _, rfl, rfl, ?_⟩
          have sA := (s1.trans sG).trans uT
          exact ⟨_, rfl, u, true, rfl, (all u (List.mem_of_getElem? e2)).same sA, fun G2 s2 => ⟨_, rfl, iteF ⟨(sG.trans uT).trans s2, _, _, rfl⟩⟩⟩
        · rintro z G ⟨sG, v1, v2, rfl⟩
          exact k G (s1.trans sG)
    · rcases sq with sq | sq
      · have hq := L2.SqL.ext sq s1
        refine ⟨_, rfl, a, xs, rfl, .inl ⟨hq, ?_⟩⟩
        refine for_it walk_enum (fun i z G => i ≤ j ∧ Same H1 G ∧ ∃ v1 v2, z = [some (.ref a), v1, v2]) ⟨Nat.zero_le _, fun _ _ e => e, none, none, rfl⟩ (fun i z G _ h => L2.SqL.ext hq h.2.1) ?_ ?_
        · rintro i y z G G' hi ⟨le, sG, v1, v2, rfl⟩ ⟨T, p, u, rfl, nT, rfl, e1, e2⟩
          cases e1
          have uT := same_new (o := .tup [V.int (i : Nat), u]) nT
          refine ⟨T, _, rfl, SqT.of upd_same, rfl, _, _, rfl, _, _, rfl, rfl, ?_⟩
          have sA := (s1.trans sG).trans uT
          rcases Nat.lt_or_eq_of_le le with lt | rfl
          · exact ⟨_, rfl, u, true, rfl, (bef i u lt e2).same sA, fun G2 s2 => ⟨_, rfl, iteF ⟨lt, (sG.trans uT).trans s2, _, _, rfl⟩⟩⟩
          · obtain rfl : v = u := Option.some.inj (hj.symm.trans e2)
            refine ⟨_, rfl, v, false, rfl, bad.same sA, fun G2 s2 => ⟨_, rfl, iteT ⟨_, rfl, rfl, by show 2 ≤ 1000; decide, ?_⟩⟩⟩
            exact fun d H2 k2 n2 e3 => (out.same (sA.trans s2)) d H2 k2 n2 e3
        · rintro z G ⟨le, _⟩
          exact absurd (List.getElem?_eq_some_iff.mp hj).1 (Nat.not_lt.mpr le)
      · have hq := L2.SqT.ext sq s1
        refine ⟨_, rfl, a, xs, rfl, .inr ⟨hq, ?_⟩⟩
        refine for_it walk_enumT (fun i z G => i ≤ j ∧ Same H1 G ∧ ∃ v1 v2, z = [some (.ref a), v1, v2]) ⟨Nat.zero_le _, fun _ _ e => e, none, none, rfl⟩ (fun i z G _ h => L2.SqT.ext hq h.2.1) ?_ ?_
        · rintro i y z G G' hi ⟨le, sG, v1, v2, rfl⟩ ⟨T, p, u, rfl, nT, rfl, e1, e2⟩
          cases e1
          have uT := same_new (o := .tup [V.int (i : Nat), u]) nT
          refine ⟨T, _, rfl, SqT.of upd_same, rfl, _, _, rfl, _, _, rfl, rfl, ?_⟩
          have sA := (s1.trans sG).trans uT
          rcases Nat.lt_or_eq_of_le le with lt | rfl
          · exact ⟨_, rfl, u, true, rfl, (bef i u lt e2).same sA, fun G2 s2 => ⟨_, rfl, iteF ⟨lt, (sG.trans uT).trans s2, _, _, rfl⟩⟩⟩
          · obtain rfl : v = u := Option.some.inj (hj.symm.trans e2)
            refine ⟨_, rfl, v, false, rfl, bad.same sA, fun G2 s2 => ⟨_, rfl, iteT ⟨_, rfl, rfl, by show 2 ≤ 1000; decide, ?_⟩⟩⟩
            exact fun d H2 k2 n2 e3 => (out.same (sA.trans s2)) d H2 k2 n2 e3
        · rintro z G ⟨le, _⟩
          exact absurd (List.getElem?_eq_some_iff.mp hj).1 (Nat.not_lt.mpr le)
end
end K18
set_option maxHeartbeats 4000000
namespace K18
open PySem PySem.Spec PyProof.Rows L2 GL
abbrev sChkMoves : Stmt := tp 44
section
variable {P : Program} {w : World} {K : PySem.W.Frag} {mg : Str → Option Value} {base : Heap}
/-- a Move, or not -/
def MvB (K : PySem.W.Frag) (H : Hp) (v : V) (b : Bool) : Prop := ∃ t, TyX K H v t ∧ PySem.W.kitOne K t (.ref (aM K)) = some b
theorem MvB.same {H H' : Hp} {v : V} {b : Bool} (h : MvB K H v b) (k : Same H H') : MvB K H' v b := by
  obtain ⟨t, ty, no⟩ := h
  exact ⟨t, TyX.same' ty k, no⟩
/-- moves, or none -/
def spChkMoves (K : PySem.W.Frag) : Sp := fun vs H Q E => ∃ x, vs = [x] ∧
  ((x = .non ∧ Q .non H) ∨
   (x ≠ .non ∧ (∃ t, TyX K H x t ∧ PySem.W.kitOne K t (.type "dict") = some false) ∧ outW (aIL K) (rFs "moves" .non) H E) ∨
   (∃ (d : Addr) (kvs : List (List Key × V)), x = .ref d ∧ H d = some (.dT kvs) ∧ kvs.length ≤ 1000 ∧ kvs ≠ [] ∧ outW (aIL K) (rFs "moves" .non) H E) ∨
   ∃ (d : Addr) (kvs : List (Key × V)), x = .ref d ∧ H d = some (.dK kvs) ∧ kvs.length ≤ 1000 ∧ (∀ kv ∈ kvs, KeyOk kv.1) ∧
    (((kvs.all fun kv => keyNm kv.1) = false ∧ outW (aIL K) (rFs "moves" .non) H E) ∨
     ((kvs.all fun kv => keyNm kv.1) = true ∧ ∃ ks : List Str, kvs.map (·.1) = ks.map Sum.inr ∧ ks.length < 64 ∧
      ((∀ u ∈ ks, ∃ v, valV kvs (.inr u) = some v ∧ MvB K H v true) ∧ (∀ H', Same H H' → Q .non H') ∨
       ∀ ys : List Str, ys.Perm ks → sortedS ys = true → ∃ (j : Nat) (u : Str) (v : V), ys[j]? = some u ∧ valV kvs (.inr u) = some v ∧ MvB K H v false ∧ (∀ (i : Nat) (u' : Str), i < j → ys[i]? = some u' → ∃ v', valV kvs (.inr u') = some v' ∧ MvB K H v' true) ∧
        outW (aIL K) (rFs "moves" (.str u)) H E))))
abbrev nChkMoves : List Str := ["moves", "level"]
theorem scChkMoves : FnScope nChkMoves ["moves"] (defScope sChkMoves) := ⟨rfl, rfl, rfl, by decide +kernel, rfl, by decide +kernel, by decide +kernel⟩
theorem ok_chkMoves {f : Addr} {fd : FuncData} (F : Fun K "_check_moves" "_check_moves" sChkMoves f fd) (hn : DefF P w K mg base "has_names" 3 ["value"] (spHasNames K)) (gS : mg "sorted" = none) (gM : mg "Move" = some (.ref (aM K))) (N : NF K mg) (Z : EM P w K mg base) :
    FnOk P w K mg base (L2.CX P w) 4 f fd ["moves"] (spChkMoves K) := by
  obtain ⟨fH, fdH, GH_, gH, bH, kH⟩ := hn
  obtain ⟨fI, fdI, i1, i2, GI, bI⟩ := Z.mL
  refine F.okX scChkMoves (fun vs H Q E h => ?_) (fun cdv A outer s H vs Q E hr h => ?_)
  · obtain ⟨x, rfl, _⟩ := h
    rfl
  · obtain ⟨x, rfl, h⟩ := h
    have r2 : Room 2 _ := hr.mono (by decide)
    have hu := hr.units
    have hu1 : (A.deeper (envOfC "_check_moves" (defScope sChkMoves) s.heap.objs.size f cdv)).units + 1 < cLine := by omega
    refine ⟨_, pss_cons (ps_if (pt_cmpR op_isN (pv 0) pe_non (nomark _)) (pss_one ps_retN) pss_nil)
      (pss_cons (ps_if (pt_not (pt_val (pe_call GH_ hr rfl gH kH bH .nil pass0 (pa_cons (pv 0) pa_nil)))) (pss_one (ps_raise rfl (takes_of rfl rfl rfl rfl) (pmk_x Z.xL i1 i2 GI r2 bI rfl Z.gL (pa_cons pe_str (pa_cons pe_non pa_nil))))) pss_nil)
      (pss_one (ps_for (passes_of rfl) rfl (pi_list (pe_callB (call_sortedD rfl) (by rfl) gS (by decide +kernel) (pa_cons (pv 0) pa_nil))) (pg_name (i := 1) scChkMoves.nd rfl (.inl rfl))
        (pss_one (ps_if (pt_not (pt_val (pe_callB call_isi (by rfl) N.isi (by decide +kernel) (pa_cons (pe_dget hu1 (pv 0) (pv 1) (fun _ _ => rfl)) (pa_cons (pe_glob (v := .ref (aM K)) rfl gM rfl) pa_nil)))))
          (pss_one (ps_raise rfl (takes_of rfl rfl rfl rfl) (pmk_x Z.xL i1 i2 GI r2 bI rfl Z.gL (pa_cons pe_str (pa_cons (pv 1) pa_nil))))) pss_nil))))), ?_⟩
    rcases h with ⟨rfl, k⟩ | ⟨ne, ⟨t, ty, no⟩, out⟩ | ⟨d, kvs, rfl, hd, len, ne, out⟩ | ⟨d, kvs, rfl, hd, len, ks, h⟩
    · exact ⟨_, rfl, rfl, _, rfl, iteT k⟩
    · refine ⟨_, rfl, rfl, _, rfl, ?_⟩
      rw [decide_eq_false ne]
      exact iteF ⟨_, rfl, x, false, rfl, .inr (.inr ⟨t, ty, no, rfl⟩), fun H1 s1 => ⟨_, rfl, iteT ⟨rfl, by show 2 ≤ 1000; decide, fun d H2 k2 n2 e2 => (out.same s1) d H2 k2 n2 e2⟩⟩⟩
    · exact ⟨_, rfl, rfl, _, rfl, iteF ⟨_, rfl, _, false, rfl, .inr (.inl ⟨d, kvs, rfl, hd, len, ne, rfl⟩), fun H1 s1 => ⟨_, rfl, iteT ⟨rfl, by show 2 ≤ 1000; decide, fun d H2 k2 n2 e2 => (out.same s1) d H2 k2 n2 e2⟩⟩⟩⟩
    · refine ⟨_, rfl, rfl, _, rfl, iteF ?_⟩
      rcases h with ⟨no, out⟩ | ⟨ok, us, eu, l64, h⟩
      · exact ⟨_, rfl, _, false, rfl, .inl ⟨d, kvs, rfl, hd, len, ks, no.symm⟩, fun H1 s1 => ⟨_, rfl, iteT ⟨rfl, by show 2 ≤ 1000; decide, fun d H2 k2 n2 e2 => (out.same s1) d H2 k2 n2 e2⟩⟩⟩
      · refine ⟨_, rfl, _, true, rfl, .inl ⟨d, kvs, rfl, hd, len, ks, ok.symm⟩, fun H1 s1 => ⟨_, rfl, iteF ?_⟩⟩
        refine ⟨_, rfl, d, kvs, us, rfl, .of (s1 _ _ hd), eu, l64, fun ys l pm so nl => ?_⟩
        have u2 := same_new (o := .lst (ys.map V.str)) nl
        have hl : upd H1 l (.lst (ys.map V.str)) l = some (.lst (ys.map V.str)) := upd_same
        generalize upd H1 l (.lst (ys.map V.str)) = H2 at *
        have s2 := s1.trans u2
        refine ⟨l, rfl, ⟨_, SqL.of hl⟩, ?_⟩
        have hd2 := s2 _ _ hd
        rcases h with ⟨all, k⟩ | h
        · refine for_it walk_list (fun i z G => Same H2 G ∧ ∃ v1, z = [some (.ref d), v1]) ⟨fun _ _ e => e, none, rfl⟩ (fun i z G _ h => L2.SqL.ext (SqL.of hl) h.1) ?_ ?_
          · rintro i y z G G' hi ⟨sG, v1, rfl⟩ ⟨rfl, e2⟩
            rw [List.getElem?_map] at e2
            obtain ⟨u, hu2, rfl⟩ := Option.map_eq_some_iff.mp e2
            obtain ⟨v, hv, t, ty, yes⟩ := all u (pm.mem_iff.mp (List.mem_of_getElem? hu2))
            exact ⟨_, rfl, _, rfl, d, v, rfl, .inl ⟨kvs, .inr u, .of (sG _ _ hd2), rfl, hv.symm⟩, v, .ref (aM K), t, _, true, rfl, .own _, TyX.same' (TyX.same' ty s2) sG, yes, true, rfl, iteF ⟨sG, _, rfl⟩⟩
          · rintro z G ⟨sG, v1, rfl⟩
            exact k G (s2.trans sG)
        · obtain ⟨j, w_, v, hj, hv, bad, bef, out⟩ := h ys pm so
          refine for_it walk_list (fun i z G => i ≤ j ∧ Same H2 G ∧ ∃ v1, z = [some (.ref d), v1]) ⟨Nat.zero_le _, fun _ _ e => e, none, rfl⟩ (fun i z G _ h => L2.SqL.ext (SqL.of hl) h.2.1) ?_ ?_
          · rintro i y z G G' hi ⟨le, sG, v1, rfl⟩ ⟨rfl, e2⟩
            rw [List.getElem?_map] at e2
            obtain ⟨u, hu2, rfl⟩ := Option.map_eq_some_iff.mp e2
            rcases Nat.lt_or_eq_of_le le with lt | rfl
            · obtain ⟨v', hv', t, ty, yes⟩ := bef i u lt hu2
              exact ⟨_, rfl, _, rfl, d, v', rfl, .inl ⟨kvs, .inr u, .of (sG _ _ hd2), rfl, hv'.symm⟩, v', .ref (aM K), t, _, true, rfl, .own _, TyX.same' (TyX.same' ty s2) sG, yes, true, rfl, iteF ⟨lt, sG, _, rfl⟩⟩
            · obtain rfl : w_ = u := Option.some.inj (hj.symm.trans hu2)
              obtain ⟨t, ty, no⟩ := bad
              refine ⟨_, rfl, _, rfl, d, v, rfl, .inl ⟨kvs, .inr w_, .of (sG _ _ hd2), rfl, hv.symm⟩, v, .ref (aM K), t, _, false, rfl, .own _, TyX.same' (TyX.same' ty s2) sG, no, false, rfl, iteT ⟨_, rfl, rfl, by show 2 ≤ 1000; decide, ?_⟩⟩
              exact fun d H2 k2 n2 e3 => (out.same (s2.trans sG)) d H2 k2 n2 e3
          · rintro z G ⟨le, _⟩
            rw [List.length_map] at le
            exact absurd (List.getElem?_eq_some_iff.mp hj).1 (Nat.not_lt.mpr le)
end
end K18
set_option maxHeartbeats 4000000
namespace K18
open PySem PySem.Spec PyProof.Rows L2 GL
abbrev sRule (j : Nat) : Stmt := inClass (tp 41) j
abbrev aRu (K : PySem.W.Frag) : Addr := He.ga K "Rule"
/-- a dict comprehension over what is walked -/
theorem dc_it {J : It} {n : Nat} {G : Hp → Prop} {Y : Nat → Hp → V → Hp → Prop} (w : Walk J n G Y) {g : TG} {tt : TT} {tk tv : TE} {vs : List Nat} {σ : L2.St} {H1 : Hp} {D : Addr} {Qd : Hp → Prop} (Pv : Nat → Hp → Prop) (h0 : Pv 0 (upd H1 D (.dK []))) (hG : ∀ i H, i ≤ n → Pv i H → G H)
    (hs : ∀ i x H H', i < n → Pv i H → Y i H x H' → g x (wipe σ vs) H' fun σ2 H2 => wipe σ2 vs = wipe σ vs ∧ tt σ2 H2 fun b H3 =>
      if b = true then tk σ2 H3 fun y H4 => tv σ2 H4 fun z H5 => ∃ kvs k, y = kV k ∧ H5 D = some (.dK kvs) ∧ kvs.length < sizeLine ∧ Pv (i + 1) (upd H5 D (.dK (putK kvs k z))) else Pv (i + 1) H3) (hd : ∀ H, Pv n H → Qd H) :
    ∃ W : Nat → Nat → Hp → Prop, (∃ m, W 0 m (upd H1 D (.dK []))) ∧ ∀ i m H, W i m H →
      (J.stop i H ∧ Qd H) ∨ (J.go i H ∧ ∃ Nx : Hp → Prop, (∀ H', Nx H' → ∃ m', m' < m ∧ W (i + 1) m' H') ∧ ∀ x H', J.yld i H x H' → g x (wipe σ vs) H' fun σ2 H2 => wipe σ2 vs = wipe σ vs ∧ tt σ2 H2 fun b H3 =>
        if b = true then tk σ2 H3 fun y H4 => tv σ2 H4 fun z H5 => ∃ kvs k, y = kV k ∧ H5 D = some (.dK kvs) ∧ kvs.length < sizeLine ∧ Nx (upd H5 D (.dK (putK kvs k z))) else Nx H3) := by
  refine ⟨fun i m H => m = n - i ∧ i ≤ n ∧ Pv i H, ⟨n, by simp, Nat.zero_le _, h0⟩, ?_⟩
  rintro i m H ⟨rfl, hi, p⟩
  have q := hG i H hi p
  by_cases hlt : i < n
  · refine .inr ⟨w.goes i H hlt q, Pv (i + 1), fun H' p' => ⟨n - (i + 1), by omega, rfl, hlt, p'⟩, fun x H' y => hs i x H H' hlt p (w.yields i H x H' hlt q y)⟩
  · have e : i = n := by omega
    subst e
    exact .inl ⟨w.stops H q, hd H p⟩
theorem pi_or {X : Cx} {tg e : Expr} {w1 w2 : TI} (a : PI X tg e w1) (b : PI X tg e w2) : PI X tg e (fun σ H R => w1 σ H R ∨ w2 σ H R) := ⟨fun pins s σ H R I h => h.elim (a.run pins s σ H R I) (b.run pins s σ H R I)⟩
/-- a list or a tuple in slot i is walked -/
theorem pi_seqV {X : Cx} {tg e : Expr} {i : Nat} (he : PE X e (tVar i)) : PI X tg e (fun σ H R => ∃ a xs, σ[i]? = some (some (.ref a)) ∧ (SqL X.K H a xs ∨ SqT X.K H a xs) ∧ ∀ (J : It) (Gd : Hp → Prop), Walk J xs.length Gd (YAt xs) → Gd H → (∀ H', Same H H' → Gd H') → R J H) :=
  ⟨fun pins s σ H R I h => by
    obtain ⟨a, xs, e, sq, k⟩ := h
    rcases sq with sq | sq
    · exact (pi_list he).run pins s σ H R I ⟨_, e, a, rfl, ⟨_, sq⟩, k _ _ walk_list sq fun H' s => L2.SqL.ext sq s⟩
    · exact (pi_tup he).run pins s σ H R I ⟨_, e, a, rfl, ⟨_, sq⟩, k _ _ walk_tup sq fun H' s => L2.SqT.ext sq s⟩⟩
/-- what the class Rule must have -/
structure UF (K : PySem.W.Frag) (mg : Str → Option Value) : Prop where
  cl : Cls K (aRu K)
  nG : NoAttr K (aRu K) "_goal"
  nA : NoAttr K (aRu K) "_answer"
  nW : NoAttr K (aRu K) "_when"
  nM : NoAttr K (aRu K) "_moves"
  gU : mg "Rule" = some (.ref (aRu K))
section
variable {P : Program} {w : World} {K : PySem.W.Frag} {mg : Str → Option Value} {base : Heap}
structure RU (P : Program) (w : World) (K : PySem.W.Frag) (mg : Str → Option Value) (base : Heap) : Prop where
  R : RH P w K mg base
  N : NF K mg
  U : UF K mg
  Z : EM P w K mg base
  nm : DefF P w K mg base "is_name" 2 ["value"] (spName K)
  cw : ∃ f fd, FnOk P w K mg base (L2.CX P w) 4 f fd ["when"] (spChkWhen K) ∧ mg "_check_when" = some (.ref f) ∧ Binds K fd ["when"] [] ∧ PySem.W.keepIn K (.ref f) = true
  cm : ∃ f fd, FnOk P w K mg base (L2.CX P w) 4 f fd ["moves"] (spChkMoves K) ∧ mg "_check_moves" = some (.ref f) ∧ Binds K fd ["moves"] [] ∧ PySem.W.keepIn K (.ref f) = true
  srt : mg "sorted" = none
  mst : ∃ u, mg "MOST_CONDITIONS" = some u ∧ RelV (.int 8) u
abbrev nRuleI : List Str := ["self", "goal", "answer", "when", "moves", "name", "level", "side", "number"]
theorem scRuleI : FnScope nRuleI ["self", "goal", "answer", "when", "moves"] (defScope (sRule 0)) := ⟨rfl, rfl, rfl, by decide +kernel, rfl, by decide +kernel, by decide +kernel⟩
/-- conditions as they are given -/
def CondsAt (K : PySem.W.Frag) (H : Hp) (xs : List V) (rows : List (Str × Str × Rat)) : Prop := xs.length = rows.length ∧ ∀ (i : Nat) (v : V) (r : Str × Str × Rat), xs[i]? = some v → rows[i]? = some r → ∃ c num, v = .ref c ∧ H c = some (.tup [.str r.1, .str r.2.1, num]) ∧ NumAt K H num r.2.2
/-- conditions as a rule has them -/
def RowsL (K : PySem.W.Frag) (H : Hp) (ys : List V) (rows : List (Str × Str × Rat)) : Prop := ys.length = rows.length ∧ ∀ (i : Nat) (v : V) (r : Str × Str × Rat), ys[i]? = some v → rows[i]? = some r → ∃ c p, v = .ref c ∧ H c = some (.tup [.str r.1, .str r.2.1, .ref p]) ∧ RatAt K H p r.2.2
def RowsAt (K : PySem.W.Frag) (H : Hp) (a : Addr) (rows : List (Str × Str × Rat)) : Prop := ∃ ys, H a = some (.tup ys) ∧ RowsL K H ys rows
def movesOf (kvs : List (Key × V)) (ys : List Str) : List (Key × V) := ys.map fun u => (Sum.inr u, (valV kvs (Sum.inr u)).getD .non)
/-- the moves that are given: None, or a dict -/
def MovesIn (H : Hp) (mv : V) (kvs : List (Key × V)) (ks : List Str) : Prop := (mv = .non ∧ kvs = [] ∧ ks = []) ∨ ∃ d, mv = .ref d ∧ H d = some (.dK kvs) ∧ kvs.map (·.1) = ks.map Sum.inr ∧ ks.length < 64 ∧ ks.Nodup
/-- a rule is made -/
def Suc (K : PySem.W.Frag) (s dx : Addr) (g a : V) (xs : List V) (mv : V) (H : Hp) (Q : VK) : Prop := ∃ rows kvs ks, xs.length ≤ 8 ∧ CondsAt K H xs rows ∧ MovesIn H mv kvs ks ∧
  ∀ H' tw md ys, Kp s H H' → ys.Perm ks → sortedS ys = true → RowsAt K H' tw rows → H' md = some (.dK (movesOf kvs ys)) → H' s = some (.ins (aRu K) dx [("_goal", g), ("_answer", a), ("_when", .ref tw), ("_moves", .ref md)]) → H md = none → Q .non H'
def RuleTail (K : PySem.W.Frag) (s dx : Addr) (g a wh mv : V) (H : Hp) (Q : VK) (E : XK) : Prop := H s = some (.ins (aRu K) dx []) ∧ ∃ aw xs, wh = .ref aw ∧ (SqL K H aw xs ∨ SqT K H aw xs) ∧
  ((8 < xs.length ∧ outW (aTM K) [("limit", .int 8), ("kind", .str "conditions")] H E) ∨ Suc K s dx g a xs mv H Q)
def spRuleI (K : PySem.W.Frag) : Sp := fun vs H Q E => ∃ (s dx : Addr) (g a wh mv : V), vs = [.ref s, g, a, wh, mv] ∧
  ((∃ (j : Nat) (v : V), [g, a][j]? = some v ∧ IsNm K H v false ∧ (∀ (i : Nat) (u : V), i < j → [g, a][i]? = some u → IsNm K H u true) ∧ outW (aIA K) [("value", v)] H E) ∨
   ((∀ v ∈ [g, a], IsNm K H v true) ∧ ∀ H1, Same H H1 → spChkWhen K [wh] H1 (fun _ H2 => spChkMoves K [mv] H2 (fun _ H3 => RuleTail K s dx g a wh mv H3 Q E) E) E))
theorem sqL_kp {H H' : Hp} {s C dx a : Addr} {fs : List (Str × V)} {xs : List V} (h : SqL K H a xs) (e : H s = some (.ins C dx fs)) (k : Kp s H H') : SqL K H' a xs := by
  rcases h with (h | ⟨o, h⟩) | h
  · exact .inl (.inl (k _ _ (fun z => by rw [z, e] at h; cases h) h))
  · exact .inl (.inr ⟨o, k _ _ (fun z => by rw [z, e] at h; cases h) h⟩)
  · exact .inr h
theorem sqT_kp {H H' : Hp} {s C dx a : Addr} {fs : List (Str × V)} {xs : List V} (h : SqT K H a xs) (e : H s = some (.ins C dx fs)) (k : Kp s H H') : SqT K H' a xs := by
  rcases h with (h | ⟨o, h⟩) | h
  · exact .inl (.inl (k _ _ (fun z => by rw [z, e] at h; cases h) h))
  · exact .inl (.inr ⟨o, k _ _ (fun z => by rw [z, e] at h; cases h) h⟩)
  · exact .inr h
theorem CondsAt.kp {H H' : Hp} {s C dx : Addr} {fs : List (Str × V)} {xs : List V} {rows : List (Str × Str × Rat)} (h : CondsAt K H xs rows) (e : H s = some (.ins C dx fs)) (hf : fs.lookup ("_top" : Str) = none) (k : Kp s H H') : CondsAt K H' xs rows := ⟨h.1, fun i v r e1 e2 => by
  obtain ⟨c, num, ev, hc, hn⟩ := h.2 i v r e1 e2
  exact ⟨c, num, ev, k _ _ (fun z => by rw [z, e] at hc; cases hc) hc, hn.kp e hf k⟩⟩
theorem MovesIn.kp {H H' : Hp} {s C dx : Addr} {fs : List (Str × V)} {mv : V} {kvs : List (Key × V)} {ks : List Str} (h : MovesIn H mv kvs ks) (e : H s = some (.ins C dx fs)) (k : Kp s H H') : MovesIn H' mv kvs ks := by
  rcases h with h | ⟨d, ed, hd, r⟩
  · exact .inl h
  · exact .inr ⟨d, ed, k _ _ (fun z => by rw [z, e] at hd; cases hd) hd, r⟩
theorem MovesIn.same {H H' : Hp} {mv : V} {kvs : List (Key × V)} {ks : List Str} (h : MovesIn H mv kvs ks) (k : Same H H') : MovesIn H' mv kvs ks := by
  rcases h with h | ⟨d, ed, hd, r⟩
  · exact .inl h
  · exact .inr ⟨d, ed, k _ _ hd, r⟩
theorem RowsL.keep {H H' : Hp} {ys : List V} {rows : List (Str × Str × Rat)} (h : RowsL K H ys rows) (t : ∀ a xs, H a = some (.tup xs) → H' a = some (.tup xs)) (r : ∀ p q, RatAt K H p q → RatAt K H' p q) : RowsL K H' ys rows := ⟨h.1, fun i v u e1 e2 => by
  obtain ⟨c, p, ev, hc, hp⟩ := h.2 i v u e1 e2
  exact ⟨c, p, ev, t _ _ hc, r _ _ hp⟩⟩
theorem RowsL.same {H H' : Hp} {ys : List V} {rows : List (Str × Str × Rat)} (h : RowsL K H ys rows) (k : Same H H') : RowsL K H' ys rows := h.keep (fun a xs e => k _ _ e) fun p q e => e.same k
theorem RowsL.snoc {H : Hp} {ys : List V} {rows : List (Str × Str × Rat)} {r : Str × Str × Rat} {c p : Addr} (h : RowsL K H ys rows) (hc : H c = some (.tup [.str r.1, .str r.2.1, .ref p])) (hp : RatAt K H p r.2.2) : RowsL K H (ys ++ [.ref c]) (rows ++ [r]) := by
  refine ⟨by rw [List.length_append, List.length_append, h.1]; rfl, fun i v u e1 e2 => ?_⟩
  by_cases hi : i < ys.length
  · rw [List.getElem?_append_left hi] at e1
    rw [List.getElem?_append_left (by rw [← h.1]; exact hi)] at e2
    exact h.2 i v u e1 e2
  · rw [List.getElem?_append_right (by omega)] at e1
    rw [List.getElem?_append_right (by rw [← h.1]; omega)] at e2
    have i0 : i - ys.length = 0 := by
      have := (List.getElem?_eq_some_iff.mp e1).1
      simp at this
      omega
    rw [i0] at e1
    rw [← h.1, i0] at e2
    cases e1
    cases e2
    exact ⟨c, p, rfl, hc, hp⟩
theorem valV_in {kvs : List (Key × V)} {ks : List Str} {u : Str} (e : kvs.map (·.1) = ks.map Sum.inr) (hu : u ∈ ks) : ∃ v, valV kvs (Sum.inr u) = some v := by
  have h : (Sum.inr u : Key) ∈ kvs.map (·.1) := by
    rw [e]
    exact List.mem_map.mpr ⟨u, hu, rfl⟩
  obtain ⟨kv, hkv, ek⟩ := List.mem_map.mp h
  unfold valV
  cases c : kvs.find? fun kv => decide (kv.1 = (Sum.inr u : Key)) with
  | none =>
    have z := List.find?_eq_none.mp c kv hkv
    simp [ek] at z
  | some q => exact ⟨_, rfl⟩
theorem movesOf_put {kvs : List (Key × V)} {l : List Str} {u : Str} {v : V} (n : u ∉ l) (h : valV kvs (Sum.inr u) = some v) : putK (movesOf kvs l) (Sum.inr u) v = movesOf kvs (l ++ [u]) := by
  have no : (movesOf kvs l).any (fun kv => decide (kv.1 = (Sum.inr u : Key))) = false := by
    rw [List.any_eq_false]
    intro kv hkv
    obtain ⟨w, hw, rfl⟩ := List.mem_map.mp hkv
    simp
    rintro rfl
    exact n hw
  unfold putK
  rw [no]
  simp [movesOf, h]
theorem chkWhen_mono {vs : List V} {H : Hp} {Q Q' : VK} {E : XK} (h : spChkWhen K vs H Q E) (k : ∀ v H', Q v H' → Q' v H') : spChkWhen K vs H Q' E := by
  obtain ⟨x, e, h⟩ := h
  refine ⟨x, e, ?_⟩
  rcases h with h | ⟨a, xs, t, e1, ty, e2, sq, len, h⟩
  · exact .inl h
  · refine .inr ⟨a, xs, t, e1, ty, e2, sq, len, ?_⟩
    rcases h with ⟨all, h⟩ | h
    · exact .inl ⟨all, fun H' s => k _ _ (h H' s)⟩
    · exact .inr h
theorem chkMoves_mono {vs : List V} {H : Hp} {Q Q' : VK} {E : XK} (h : spChkMoves K vs H Q E) (k : ∀ v H', Q v H' → Q' v H') : spChkMoves K vs H Q' E := by
  obtain ⟨x, e, h⟩ := h
  refine ⟨x, e, ?_⟩
  rcases h with ⟨e1, h⟩ | h | h | ⟨d, kvs, e1, hd, len, ok, h⟩
  · exact .inl ⟨e1, k _ _ h⟩
  · exact .inr (.inl h)
  · exact .inr (.inr (.inl h))
  · refine .inr (.inr (.inr ⟨d, kvs, e1, hd, len, ok, ?_⟩))
    rcases h with h | ⟨e2, ks, e3, l, h⟩
    · exact .inl h
    · refine .inr ⟨e2, ks, e3, l, ?_⟩
      rcases h with ⟨all, h⟩ | h
      · exact .inl ⟨all, fun H' s => k _ _ (h H' s)⟩
      · exact .inr h
theorem ok_ruleI {kws : List (Str × V)} {f : Addr} {fd : FuncData} (F : FunD K "__init__" "Rule.__init__" (defArgs (sRule 0)) (defBody (sRule 0)) (defScope (sRule 0)) [] kws f fd) (M : RU P w K mg base) : FnOk P w K mg base (L2.CX P w) 5 f fd ["self", "goal", "answer", "when", "moves"] (spRuleI K) := by
  obtain ⟨mc, pp, fo, cr, cm, GO⟩ := M.R.of
  obtain ⟨fN, fdN, GN_, gN, bN, kN⟩ := M.nm
  obtain ⟨fW, fdW, GW_, gW, bW, kW⟩ := M.cw
  obtain ⟨fV, fdV, GV_, gV, bV, kV_⟩ := M.cm
  obtain ⟨fA, fdA, a1, a2, GA_, bA⟩ := M.Z.mA
  obtain ⟨fT, fdT, t1, t2, GT_, bT⟩ := M.Z.mT
  obtain ⟨uC, gC, rC⟩ := M.mst
  have T := M.U
  have TR := M.R.G.T
  have N := M.N
  refine F.ok scRuleI (fun vs H Q E h => ?_) (fun cdv A outer s H vs Q E hr h => ?_)
  · obtain ⟨s, dx, g, a, wh, mv, rfl, _⟩ := h
    rfl
  · have r2 : Room 2 _ := hr.mono (by decide)
    have hu := hr.units
    have hu1 : (A.deeper (envOfC "Rule.__init__" (defScope (sRule 0)) s.heap.objs.size f cdv)).units + 1 < cLine := by omega
    refine ⟨_, pss_cons (ps_for (passes_of rfl) rfl (pi_tup (pe_tup (pa_cons (pv 1) (pa_cons (pv 2) pa_nil)))) (pg_name (i := 5) scRuleI.nd rfl (.inl rfl))
        (pss_one (ps_if (pt_not (pt_val (pe_call GN_ r2 rfl gN kN bN .nil pass0 (pa_cons (pv 5) pa_nil)))) (pss_one (ps_raise rfl (takes_of rfl rfl rfl rfl) (pmk_x M.Z.xA a1 a2 GA_ r2 bA rfl M.Z.gA (pa_cons (pv 5) pa_nil)))) pss_nil)))
      (pss_cons (ps_expr (pe_call GW_ hr rfl gW kW bW .nil (passE (takes_of rfl rfl rfl rfl)) (pa_cons (pv 3) pa_nil)))
      (pss_cons (ps_expr (pe_call GV_ hr rfl gV kV_ bV .nil (passE (takes_of rfl rfl rfl rfl)) (pa_cons (pv 4) pa_nil)))
      (pss_cons (ps_if (pt_cmpR op_gt (pe_callB call_len_seq (by rfl) N.len PySem.boot_len (pa_cons (pv 3) pa_nil)) (pe_glob rfl gC rC) (nomark _)) (pss_one (ps_raise rfl (takes_of rfl rfl rfl rfl) (pmk_x M.Z.xT t1 t2 GT_ r2 bT rfl M.Z.gT (pa_cons pe_str (pa_cons (pe_glob rfl gC rC) pa_nil))))) pss_nil)
      (pss_cons (ps_fld (pv 0) (pv 1) rfl)
      (pss_cons (ps_fld (pv 0) (pv 2) rfl)
      (pss_cons (ps_fld (pv 0) (pe_callTy call_tuple_of (by rfl) N.tuple (by decide +kernel) (pa_cons (pe_lc (own := [("level", 6), ("side", 7), ("number", 8)]) (g := gTup K 3 (gCons (gName 6) (gCons (gName 7) (gCons (gName 8) gNil)))) (tt := tYes) (te := tTup (tCons (tVar 6) (tCons (tVar 7) (tCons (ClX.tCMeth (aR K) (spOf K) E0 (tC (.ref (aR K))) (tCons (tVar 8) tNil)) tNil)))) rfl scRuleI.nd (pi_seqV (pv 3))
          (blkOk_by (own := [("level", 6), ("side", 7), ("number", 8)]) (N := nRuleI) (sc := defScope (sRule 0)) (by decide +kernel)) (fun _ _ _ _ _ => by exact (pg_tup (by rfl) (pgs_cons (pg_name (i := 6) scRuleI.nd rfl (.inl rfl)) (pgs_cons (pg_name (i := 7) scRuleI.nd rfl (.inl rfl)) (pgs_cons (pg_name (i := 8) scRuleI.nd rfl (.inl rfl)) pgs_nil))))) (fun _ _ _ _ _ => pts_nil)
          (fun _ _ _ _ _ => by exact (pe_tup (pa_cons (pv 6) (pa_cons (pv 7) (pa_cons (ClX.pe_cmeth (pe_glob (v := .ref (aR K)) rfl TR.gR rfl) cr cm GO hr pass0 (pa_cons (pv 8) pa_nil)) pa_nil)))))) pa_nil)) rfl)
      (pss_one (ps_fld (pv 0) (pe_ifExp (pt_truth (pv 4) (fun _ => rfl)) (pe_dc (own := [("level", 6)]) (g := gName 6) (tt := tYes) rfl scRuleI.nd (pi_list (pe_callB (call_sortedD rfl) (by rfl) M.srt (by decide +kernel) (pa_cons (pv 4) pa_nil)))
          (blkOk_by (own := [("level", 6)]) (N := nRuleI) (sc := defScope (sRule 0)) (by decide +kernel)) (fun _ _ _ _ _ => pg_name (i := 6) scRuleI.nd rfl (Or.inl rfl)) (fun _ _ _ _ _ => pts_nil)
          (fun _ _ _ _ _ => by exact (pv 6)) (fun _ _ _ _ _ => by exact (pe_dget hu1 (pv 4) (pv 6) (fun _ _ => rfl)))) pe_dnewK) rfl)))))))), ?_⟩
    obtain ⟨s0, dx, g, a, wh, mv, rfl, h⟩ := h
    refine ⟨_, rfl, _, rfl, (by show 2 ≤ sizeLine; decide), fun tp np => ⟨tp, rfl, ⟨_, SqT.of upd_same⟩, ?_⟩⟩
    have u1 := same_new (o := .tup [g, a]) np
    have ht : upd H tp (.tup [g, a]) tp = some (.tup [g, a]) := upd_same
    generalize upd H tp (.tup [g, a]) = H1 at *
    rcases h with ⟨j, v, hj, bad, bef, out⟩ | ⟨all, h⟩
    · refine for_it walk_tup (fun i z G => i ≤ j ∧ Same H1 G ∧ ∃ v5, z = [some (.ref s0), some g, some a, some wh, some mv, v5, none, none, none]) ⟨Nat.zero_le _, fun _ _ e => e, none, rfl⟩ (fun i z G _ h => L2.SqT.ext (SqT.of ht) h.2.1) ?_ ?_
      · rintro i y z G G' hi ⟨le, sG, v5, rfl⟩ ⟨rfl, e2⟩
        have sA := u1.trans sG
        rcases Nat.lt_or_eq_of_le le with lt | rfl
        · exact ⟨_, rfl, y, true, rfl, (bef i y lt e2).same sA, fun G2 s2 => ⟨_, rfl, iteF ⟨lt, sG.trans s2, _, rfl⟩⟩⟩
        · obtain rfl : v = y := Option.some.inj (hj.symm.trans e2)
          exact ⟨_, rfl, v, false, rfl, bad.same sA, fun G2 s2 => ⟨_, rfl, iteT ⟨_, rfl, rfl, by show 1 ≤ 1000; decide, fun d H2 k2 n2 e3 => (out.same (sA.trans s2)) d H2 k2 n2 e3⟩⟩⟩
      · rintro z G ⟨le, _⟩
        exact absurd (List.getElem?_eq_some_iff.mp hj).1 (Nat.not_lt.mpr le)
    refine for_it walk_tup (fun i z G => Same H1 G ∧ ∃ v5, z = [some (.ref s0), some g, some a, some wh, some mv, v5, none, none, none]) ⟨fun _ _ e => e, none, rfl⟩ (fun i z G _ h => L2.SqT.ext (SqT.of ht) h.1) ?_ ?_
    · rintro i y z G G' hi ⟨sG, v5, rfl⟩ ⟨rfl, e2⟩
      exact ⟨_, rfl, y, true, rfl, (all y (List.mem_of_getElem? e2)).same (u1.trans sG), fun G2 s2 => ⟨_, rfl, iteF ⟨sG.trans s2, _, rfl⟩⟩⟩
    rintro z G ⟨sG, v5, rfl⟩
    refine ⟨_, rfl, ?_⟩
    unfold tNil
    dsimp only [List.append_nil]
    show spChkWhen K [wh] G _ E
    refine chkWhen_mono (h G (u1.trans sG)) fun _ H2 h2 => ?_
    refine ⟨_, rfl, ?_⟩
    show spChkMoves K [mv] H2 _ E
    refine chkMoves_mono h2 fun _ H3 h3 => ?_
    obtain ⟨es, aw, xs, rfl, sq, h⟩ := h3
    rcases h with ⟨many, out⟩ | ⟨rows, kvs, ks, l8, cs, mi, k⟩
    · refine ⟨_, rfl, aw, xs, rfl, sq, _, _, rfl, rfl, _, rfl, ?_⟩
      rw [decide_eq_true (by show (8 : Int) < xs.length; omega)]
      exact iteT ⟨rfl, by show 2 ≤ 1000; decide, fun d H2 k2 n2 e3 => out d H2 k2 n2 e3⟩
    refine ⟨_, rfl, aw, xs, rfl, sq, _, _, rfl, rfl, _, rfl, ?_⟩
    rw [decide_eq_false (by show ¬ (8 : Int) < xs.length; omega)]
    refine iteF ?_
    refine ⟨_, rfl, _, rfl, s0, _, dx, _, rfl, es, T.cl, T.nG, (by decide), ?_⟩
    refine ⟨_, rfl, _, rfl, s0, _, dx, _, rfl, upd_same, T.cl, T.nA, (by show 1 < 1000; decide), ?_⟩
    have kb : Kp s0 H3 (upd (upd H3 s0 (.ins (aRu K) dx (putF "_goal" g []))) s0 (.ins (aRu K) dx (putF "_answer" a (putF "_goal" g [])))) := Kp.put (Kp.put fun c o _ e => e)
    have eb : upd (upd H3 s0 (.ins (aRu K) dx (putF "_goal" g []))) s0 (.ins (aRu K) dx (putF "_answer" a (putF "_goal" g []))) s0 = some (.ins (aRu K) dx [("_goal", g), ("_answer", a)]) := upd_same
    have sqb : SqL K _ aw xs ∨ SqT K _ aw xs := sq.imp (fun h => sqL_kp h es kb) fun h => sqT_kp h es kb
    have csb := cs.kp es rfl kb
    have mib := mi.kp es kb
    generalize upd (upd H3 s0 (.ins (aRu K) dx (putF "_goal" g []))) s0 (.ins (aRu K) dx (putF "_answer" a (putF "_goal" g []))) = Hb at *
    -- the conditions
    refine ⟨aw, xs, rfl, sqb, fun J Gd wk g0 gs D hD => ?_⟩
    have uD := same_new (o := .lst []) hD
    refine lc_it wk (fun i G => Same Hb G ∧ ∃ acc, G D = some (.lst acc) ∧ RowsL K G acc (rows.take i)) ⟨uD, [], upd_same, by simp, fun i v r e => by simp at e⟩ (fun i G _ h => gs G h.1) ?_ ?_
    · rintro i y G G' hi ⟨sG, acc, hacc, ra⟩ ⟨rfl, hy⟩
      have hir : i < rows.length := by rw [← csb.1]; exact hi
      obtain ⟨c, num, rfl, hc, hn⟩ := csb.2 i y rows[i] hy (List.getElem?_eq_getElem hir)
      have hcG := sG _ _ hc
      refine ⟨c, _, rfl, SqT.of hcG, rfl, _, _, rfl, _, _, rfl, _, _, rfl, rfl, rfl, ?_⟩
      refine ⟨_, rfl, _, rfl, rfl, _, rfl, num, rows[i].2.2, rfl, hn.same sG, fun p G1 k1 hp => ⟨(by show 3 ≤ sizeLine; decide), fun t3 n3 => ?_⟩⟩
      have u3 := same_new (o := .tup [V.str rows[i].1, .str rows[i].2.1, .ref p]) n3
      have h3 : upd G1 t3 (.tup [V.str rows[i].1, .str rows[i].2.1, .ref p]) t3 = some (.tup [V.str rows[i].1, .str rows[i].2.1, .ref p]) := upd_same
      have hp3 := hp.same u3
      generalize upd G1 t3 (.tup [V.str rows[i].1, .str rows[i].2.1, .ref p]) = G2 at *
      have k2 := k1.trans u3
      have hacc2 := k2 _ _ hacc
      have la : acc.length = i := by
        rw [ra.1, List.length_take]
        omega
      have ra2 := (ra.same k2).snoc (r := rows[i]) h3 hp3
      refine ⟨acc, hacc2, by rw [la, sizeLine_eq]; omega, fun b o e => ?_, acc ++ [.ref t3], upd_same, ?_⟩
      · have e2 := k2 _ _ (sG _ _ e)
        rw [upd_ne (ne_of_none e hD)]
        exact e2
      · rw [List.take_add_one, List.getElem?_eq_getElem hir]
        refine ra2.keep (fun b zs e => ?_) fun b q h => ?_
        · rw [upd_ne (fun z => by rw [z, hacc2] at e; cases e)]
          exact e
        · obtain ⟨d, e⟩ := h
          exact ⟨d, by rw [upd_ne (fun z => by rw [z, hacc2] at e; cases e)]; exact e⟩
    rintro G ⟨sG, acc, hacc, ra⟩
    rw [csb.1, List.take_length] at ra
    refine ⟨D, acc, rfl, .inl ⟨SqL.of hacc, fun tw ntw => ?_⟩⟩
    have uw := same_new (o := .tup acc) ntw
    have tws : tw ≠ s0 := fun z => by rw [z, sG _ _ eb] at ntw; cases ntw
    have htw : upd G tw (.tup acc) tw = some (.tup acc) := upd_same
    have eG : upd G tw (.tup acc) s0 = some (.ins (aRu K) dx [("_goal", g), ("_answer", a)]) := uw _ _ (sG _ _ eb)
    refine ⟨_, rfl, s0, _, dx, _, rfl, eG, T.cl, T.nW, (by show 2 < 1000; decide), ?_⟩
    have kc : Kp s0 H3 (upd (upd G tw (.tup acc)) s0 (.ins (aRu K) dx (putF "_when" (.ref tw) [("_goal", g), ("_answer", a)]))) := (kb.same (sG.trans uw)).put
    have ec : upd (upd G tw (.tup acc)) s0 (.ins (aRu K) dx (putF "_when" (.ref tw) [("_goal", g), ("_answer", a)])) s0 = some (.ins (aRu K) dx [("_goal", g), ("_answer", a), ("_when", V.ref tw)]) := upd_same
    have kput : Kp s0 (upd G tw (.tup acc)) (upd (upd G tw (.tup acc)) s0 (.ins (aRu K) dx (putF "_when" (.ref tw) [("_goal", g), ("_answer", a)]))) := Kp.put fun c o _ e => e
    have rw_ : RowsAt K (upd (upd G tw (.tup acc)) s0 (.ins (aRu K) dx (putF "_when" (.ref tw) [("_goal", g), ("_answer", a)]))) tw rows := ⟨acc, kput _ _ tws htw, (ra.same uw).keep (fun b zs e => kput _ _ (fun z => by rw [z, eG] at e; cases e) e) fun p q h => h.kp (notRat eG rfl h) kput⟩
    have mic : MovesIn (upd (upd G tw (.tup acc)) s0 (.ins (aRu K) dx (putF "_when" (.ref tw) [("_goal", g), ("_answer", a)]))) mv kvs ks := (mib.same (sG.trans uw)).kp eG kput
    generalize upd (upd G tw (.tup acc)) s0 (.ins (aRu K) dx (putF "_when" (.ref tw) [("_goal", g), ("_answer", a)])) = Hc at *
    have fin : ∀ (Hd : Hp) (md : Addr) (ys : List Str), Same Hc Hd → ys.Perm ks → sortedS ys = true → Hd md = some (.dK (movesOf kvs ys)) → Hc md = none → Q .non (upd Hd s0 (.ins (aRu K) dx (putF "_moves" (.ref md) [("_goal", g), ("_answer", a), ("_when", V.ref tw)]))) := by
      intro Hd md ys sd pm so hm nmd
      have es := sd _ _ ec
      have kp : Kp s0 Hd (upd Hd s0 (.ins (aRu K) dx (putF "_moves" (.ref md) [("_goal", g), ("_answer", a), ("_when", V.ref tw)]))) := Kp.put fun c o _ e => e
      obtain ⟨zs, hz, rz⟩ := rw_
      refine k _ tw md ys (kc.same sd).put pm so ⟨zs, kp _ _ (fun z => by rw [z] at hz; rw [ec] at hz; cases hz) (sd _ _ hz), (rz.same sd).keep (fun b ws e => kp _ _ (fun z => by rw [z, es] at e; cases e) e) fun p q h => h.kp (notRat es rfl h) kp⟩ (kp _ _ (fun z => by rw [z, es] at hm; cases hm) hm) upd_same (by
        cases z : H3 md with
        | none => rfl
        | some o =>
          have q := kc md o (fun y => by rw [y, ec] at nmd; cases nmd) z
          rw [nmd] at q
          cases q)
    rcases mic with ⟨rfl, rfl, rfl⟩ | ⟨d, rfl, hd, ek, l64, nd⟩
    · refine ⟨_, rfl, false, rfl, iteF fun md nmd => ?_⟩
      exact ⟨_, rfl, s0, _, dx, _, rfl, same_new nmd _ _ ec, T.cl, T.nM, (by show 3 < 1000; decide), fin _ md [] (same_new nmd) .nil rfl upd_same nmd⟩
    · refine ⟨_, rfl, _, .inr (.inr ⟨kvs, hd, rfl⟩), ?_⟩
      cases hk : kvs.isEmpty with
      | true =>
        have e0 : kvs = [] := List.isEmpty_iff.mp hk
        subst e0
        have k0 : ks = [] := by
          cases ks with
          | nil => rfl
          | cons _ _ => cases ek
        subst k0
        refine iteF fun md nmd => ?_
        exact ⟨_, rfl, s0, _, dx, _, rfl, same_new nmd _ _ ec, T.cl, T.nM, (by show 3 < 1000; decide), fin _ md [] (same_new nmd) .nil rfl upd_same nmd⟩
      | false =>
        refine iteT ?_
        refine ⟨_, rfl, d, kvs, ks, rfl, .of hd, ek, l64, fun ys l pm so nl => ⟨l, rfl, ⟨_, SqL.of upd_same⟩, fun D2 hD2 => ?_⟩⟩
        have ul := same_new (o := .lst (ys.map V.str)) nl
        have hl : upd Hc l (.lst (ys.map V.str)) l = some (.lst (ys.map V.str)) := upd_same
        generalize upd Hc l (.lst (ys.map V.str)) = Hl at *
        have u2 := same_new (o := .dK []) hD2
        have ndy : ys.Nodup := pm.nodup_iff.mpr nd
        have ly : ys.length < 64 := by rw [pm.length_eq]; exact l64
        refine dc_it walk_list (fun i G => Same Hl G ∧ G D2 = some (.dK (movesOf kvs (ys.take i)))) ⟨u2, upd_same⟩ (fun i G _ h => L2.SqL.ext (SqL.of hl) h.1) ?_ ?_
        · rintro i y G G' hi ⟨sG, hG⟩ ⟨rfl, e2⟩
          rw [List.getElem?_map] at e2
          obtain ⟨u, hu, rfl⟩ := Option.map_eq_some_iff.mp e2
          obtain ⟨v, hv⟩ := valV_in ek (pm.mem_iff.mp (List.mem_of_getElem? hu))
          refine ⟨rfl, ?_⟩
          refine ⟨_, rfl, _, rfl, _, rfl, d, v, rfl, .inl ⟨kvs, .inr u, .of (sG _ _ (ul _ _ hd)), rfl, hv.symm⟩, _, .inr u, rfl, hG, ?_, ?_, ?_⟩
          · unfold movesOf
            rw [List.length_map, List.length_take, sizeLine_eq]
            omega
          · intro b o e
            rw [upd_ne (ne_of_none e hD2)]
            exact sG _ _ e
          · have nd2 : (ys.take i ++ [u]).Nodup := by
              have z := (List.take_sublist (i + 1) ys).nodup ndy
              rw [List.take_add_one, hu] at z
              exact z
            have no : u ∉ ys.take i := fun z => (List.nodup_append.mp nd2).2.2 u z u List.mem_cons_self rfl
            rw [upd_same, movesOf_put no hv, List.take_add_one, hu]
            rfl
        · rintro G ⟨sG, hG⟩
          rw [List.length_map, List.take_length] at hG
          have sd := ul.trans sG
          exact ⟨_, rfl, s0, _, dx, _, rfl, sd _ _ ec, T.cl, T.nM, (by show 3 < 1000; decide), fin G D2 ys sd pm so hG (none_of ul hD2)⟩
end
end K18
set_option maxHeartbeats 4000000
namespace K18
open PySem PySem.Spec PyProof.Rows L2 GL
/-- a rule: its goal, its answer, its conditions, its moves -/
def RuleAt (K : PySem.W.Frag) (H : Hp) (s : Addr) (g a : Str) (rows : List (Str × Str × Rat)) (kvs : List (Key × V)) : Prop := ∃ dx tw md, H s = some (.ins (aRu K) dx [("_goal", .str g), ("_answer", .str a), ("_when", .ref tw), ("_moves", .ref md)]) ∧ RowsAt K H tw rows ∧ H md = some (.dK kvs)
theorem RuleAt.same {K : PySem.W.Frag} {H H' : Hp} {s : Addr} {g a : Str} {rows : List (Str × Str × Rat)} {kvs : List (Key × V)} (h : RuleAt K H s g a rows kvs) (k : Same H H') : RuleAt K H' s g a rows kvs := by
  obtain ⟨dx, tw, md, e, ⟨ys, hy, r⟩, hm⟩ := h
  exact ⟨dx, tw, md, k _ _ e, ⟨ys, k _ _ hy, r.same k⟩, k _ _ hm⟩
theorem eqV_str (x y : Str) : eqV (.str x) (.str y) = decide (x = y) := by
  by_cases h : x = y
  · subst h
    simp [eqV]
  · rw [decide_eq_false h]
    simpa [eqV] using h
/-- the conditions of two rules, compared -/
theorem rows_eqB {K : PySem.W.Frag} {H : Hp} {a b : Addr} {r1 r2 : List (Str × Str × Rat)} (h1 : RowsAt K H a r1) (h2 : RowsAt K H b r2) : TupB K (TupS K (ThB K)) (.ref a) (.ref b) (decide (r1 = r2)) H := by
  obtain ⟨xs, hx, lx, ix⟩ := h1
  obtain ⟨ys, hy, ly, iy⟩ := h2
  refine ⟨a, b, xs, ys, fun i => decide (r1[i]? = r2[i]?), rfl, rfl, SqT.of hx, SqT.of hy, fun i x y _ e1 e2 => ?_, ?_⟩
  · have i1 : i < r1.length := by
      rw [← lx]
      exact (List.getElem?_eq_some_iff.mp e1).1
    have i2 : i < r2.length := by
      rw [← ly]
      exact (List.getElem?_eq_some_iff.mp e2).1
    obtain ⟨c, p, rfl, hc, hp⟩ := ix i x r1[i] e1 (List.getElem?_eq_getElem i1)
    obtain ⟨c', p', rfl, hc', hp'⟩ := iy i y r2[i] e2 (List.getElem?_eq_getElem i2)
    have eb : decide (r1[i]? = r2[i]?) = decide (r1[i] = r2[i]) := by
      rw [List.getElem?_eq_getElem i1, List.getElem?_eq_getElem i2]
      simp
    show TupS K (ThB K) (.ref c) (.ref c') (decide (r1[i]? = r2[i]?)) H
    rw [eb]
    generalize r1[i] = u at *
    generalize r2[i] = v at *
    obtain ⟨l, sd, q⟩ := u
    obtain ⟨l', sd', q'⟩ := v
    refine ⟨⟨c, c', _, _, fun j => match j with | 0 => decide (l = l') | 1 => decide (sd = sd') | _ => decide (q = q'), rfl, rfl, SqT.of hc, SqT.of hc', fun j x y _ e1 e2 => ?_, ?_⟩, ?_⟩
    · match j, e1, e2 with
      | 0, e1, e2 =>
        cases e1
        cases e2
        exact .inl ⟨rfl, rfl, (eqV_str l l').symm⟩
      | 1, e1, e2 =>
        cases e1
        cases e2
        exact .inl ⟨rfl, rfl, (eqV_str sd sd').symm⟩
      | 2, e1, e2 =>
        cases e1
        cases e2
        exact .inr ⟨p, p', q, q', rfl, rfl, hp, hp', rfl⟩
    · show decide ((l, sd, q) = (l', sd', q')) = PySem.GE.allB 3 3 _ 0
      have e : ∀ es : Nat → Bool, PySem.GE.allB 3 3 es 0 = (es 0 && (es 1 && es 2)) := by
        intro es
        rw [PySem.GE.allB_step (by decide), PySem.GE.allB_step (by decide), PySem.GE.allB_step (by decide), PySem.GE.allB_end (by decide)]
        simp
      rw [e]
      simp [Prod.ext_iff]
    · intro z
      injection z with z
      subst z
      rw [hc] at hc'
      injection hc' with hc'
      injection hc' with hc'
      injection hc' with z1 hc'
      injection z1 with z1
      injection hc' with z2 hc'
      injection z2 with z2
      injection hc' with z3 _
      injection z3 with z3
      subst z1 z2 z3
      have zq : q = q' := ratAt_inj hp hp'
      subst zq
      exact decide_eq_true rfl
  · rw [lx, ly]
    unfold PySem.GE.allB
    rw [List.drop_zero]
    by_cases h : r1 = r2
    · subst h
      rw [decide_eq_true rfl]
      simp
    · rw [decide_eq_false h]
      symm
      rw [Bool.and_eq_false_iff]
      by_cases hl : r1.length = r2.length
      · left
        rw [hl, Nat.min_self]
        rw [List.all_eq_false]
        apply Decidable.byContradiction
        intro no
        apply h
        refine List.ext_getElem? fun i => ?_
        by_cases hi : i < r2.length
        · apply Decidable.byContradiction
          intro z
          exact no ⟨i, List.mem_range.mpr hi, by simpa using z⟩
        · rw [List.getElem?_eq_none (by omega), List.getElem?_eq_none (by omega)]
      · right
        simpa using hl
end K18
set_option maxHeartbeats 4000000
namespace K18
open PySem PySem.Spec PyProof.Rows L2 GL
/-- what == of rules needs -/
structure UE (P : Program) (w : World) (K : PySem.W.Frag) (mg : Str → Option Value) (base : Heap) : Prop where
  N : NF K mg
  U : UF K mg
  kc : PySem.W.findIn K (.ref (aRu K)) "__class__" = some (some (.builtin "object.__class__"))
  sp : PySem.W.specialIn K (.builtin "object.__class__") "__get__" = some (some (.builtin "getset_descriptor.__get__"))
  tk : PySem.W.takesIn K (.builtin "object.__class__") = some true
  ob : PySem.W.mroIn K (aRu K) (.type "object") = some true
  eq : ∃ f, OwnEq K (aR K) f ∧ FnR P w K mg base CX0 1 f (spREq K)
section
variable {P : Program} {w : World} {K : PySem.W.Frag} {mg : Str → Option Value} {base : Heap}
theorem isi_self {A : Addr} : PySem.W.kitOne K (.ref A) (.ref A) = some true := by unfold PySem.W.kitOne; rw [if_pos (beq_self_eq_true _)]
theorem RuleAt.ty {H : Hp} {s : Addr} {g a : Str} {rows : List (Str × Str × Rat)} {kvs : List (Key × V)} (Z : UE P w K mg base) (h : RuleAt K H s g a rows kvs) : TyX K H (.ref s) (.ref (aRu K)) := by
  obtain ⟨dx, tw, md, e, _⟩ := h
  exact .base (.ins e Z.U.cl Z.kc Z.sp Z.tk Z.ob)
/-- == of rules: what is no rule; rules without moves -/
def spRuleEq (K : PySem.W.Frag) : Sp := fun vs H Q _ => ∃ (s : Addr) (x : V) (g a : Str) (rows : List (Str × Str × Rat)), vs = [.ref s, x] ∧
  ((∃ kvs, RuleAt K H s g a rows kvs ∧ NotA K (aRu K) H x ∧ Q (.bl false) H) ∨
   (RuleAt K H s g a rows [] ∧ ∃ (o : Addr) (g' a' : Str) (rows' : List (Str × Str × Rat)), x = .ref o ∧ RuleAt K H o g' a' rows' [] ∧ ∀ H', Same H H' → Q (.bl (decide (g = g') && (decide (a = a') && decide (rows = rows')))) H'))
theorem scRuleEq : FnScope ["self", "other"] ["self", "other"] (defScope (sRule 7)) := ⟨rfl, rfl, rfl, by decide +kernel, rfl, by decide +kernel, by decide +kernel⟩
theorem ok_ruleEq {f : Addr} {fd : FuncData} (F : FunD K "__eq__" "Rule.__eq__" (defArgs (sRule 7)) (defBody (sRule 7)) (defScope (sRule 7)) [] [] f fd) (Z : UE P w K mg base) : FnOk P w K mg base CX0 4 f fd ["self", "other"] (spRuleEq K) := by
  obtain ⟨fE, oE, GE⟩ := Z.eq
  have T := Z.U
  have N := Z.N
  refine F.ok scRuleEq (fun vs H Q E h => ?_) (fun cdv A outer s H vs Q E hr h => ?_)
  · obtain ⟨s, x, g, a, rows, rfl, _⟩ := h
    rfl
  · obtain ⟨s0, x, g, a, rows, rfl, h⟩ := h
    have hu := hr.units
    have hu1 : (A.deeper (envOfC "Rule.__eq__" (defScope (sRule 7)) s.heap.objs.size f cdv)).units < cLine := by omega
    refine ⟨_, pss_cons (ps_if (pt_not (pt_val (pe_callB call_isi (by rfl) N.isi (by decide +kernel) (pa_cons (pv 1) (pa_cons (pe_glob (v := .ref (aRu K)) rfl T.gU rfl) pa_nil))))) (pss_one (ps_ret pe_bl)) pss_nil)
      (pss_cons (ps_if (PW.pt (pw_or (pt_cmpR op_ne (pe_fld (pv 0) rfl) (pe_fld (pv 1) rfl) (nomark _)) (pw_or1 (pt_cmpR op_ne (pe_fld (pv 0) rfl) (pe_fld (pv 1) rfl) (nomark _))))) (pss_one (ps_ret pe_bl)) pss_nil)
      (pss_one (ps_ret (pe_and (pe_cmpR (op_eqT (monB_tupS monB_th) (eqB_tup monB_th (eqB_th oE GE)) hr) (pe_fld (pv 0) rfl) (pe_fld (pv 1) rfl) (nomark _)) (pe_one (pe_cmpR (op_eq_dict hu1) (pe_fld (pv 0) rfl) (pe_fld (pv 1) rfl) (nomark _))))))), ?_⟩
    rcases h with ⟨kvs, hs, ⟨t, ty, no⟩, k⟩ | ⟨hs, o, g', a', rows', rfl, ho, k⟩
    · exact ⟨_, rfl, x, .ref (aRu K), t, _, false, rfl, .own _, ty, no, false, rfl, iteT k⟩
    · refine ⟨_, rfl, .ref o, .ref (aRu K), .ref (aRu K), _, true, rfl, .own _, ho.ty Z, isi_self, true, rfl, iteF ?_⟩
      obtain ⟨dx, tw, md, es, hw, hm⟩ := hs
      obtain ⟨dx', tw', md', eo, hw', hm'⟩ := ho
      refine ⟨_, rfl, s0, _, dx, _, _, rfl, es, T.cl, T.nG, rfl, _, rfl, o, _, dx', _, _, rfl, eo, T.cl, T.nG, rfl, rfl, _, rfl, ?_⟩
      by_cases hg : g = g'
      · subst hg
        rw [decide_eq_true rfl] at k
        rw [Bool.true_and] at k
        have e : (!decide (V.str g = V.str g)) = false := by simp
        rw [e]
        refine iteF ?_
        refine ⟨_, rfl, s0, _, dx, _, _, rfl, es, T.cl, T.nA, rfl, _, rfl, o, _, dx', _, _, rfl, eo, T.cl, T.nA, rfl, rfl, _, rfl, ?_⟩
        by_cases ha : a = a'
        · subst ha
          rw [decide_eq_true rfl] at k
          rw [Bool.true_and] at k
          have e : (!decide (V.str a = V.str a)) = false := by simp
          rw [e]
          refine iteF ?_
          refine ⟨_, rfl, s0, _, dx, _, _, rfl, es, T.cl, T.nW, rfl, _, rfl, o, _, dx', _, _, rfl, eo, T.cl, T.nW, rfl, _, rows_eqB hw hw', fun H1 s1 => ⟨_, rfl, ?_⟩⟩
          cases hb : decide (rows = rows') with
          | false =>
            rw [hb] at k
            exact iteF (k _ s1)
          | true =>
            rw [hb] at k
            refine iteT ⟨_, rfl, s0, _, dx, _, _, rfl, s1 _ _ es, T.cl, T.nM, rfl, _, rfl, o, _, dx', _, _, rfl, s1 _ _ eo, T.cl, T.nM, rfl, md, md', [], rfl, rfl, s1 _ _ hm, s1 _ _ hm', .nil, (fun p hp => by cases hp), k _ s1⟩
        · rw [decide_eq_false ha] at k
          have e : (!decide (V.str a = V.str a')) = true := by simp [ha]
          rw [e]
          exact iteT (k _ fun _ _ e => e)
      · rw [decide_eq_false hg] at k
        have e : (!decide (V.str g = V.str g')) = true := by simp [hg]
        rw [e]
        exact iteT (k _ fun _ _ e => e)
end
end K18
set_option maxHeartbeats 4000000
/-! def f(self, **parts), called with keywords. -/
namespace GL
open PySem PySem.Spec PyProof.Rows L2 PySem.W StX
section
variable {prog : Program} {w : World}
theorem kwEs_mix : ∀ (ex : List (Str × Value)) (t : Tok), Pairs (mixKind prog w) (kwEs w.params t ex) (ex.map fun x => ((Sum.inr x.1 : Key), x.2))
  | [], _ => Pairs.nil
  | x :: r, t => Pairs.cons (mixKind_str prog w x.1 t) rfl (kwEs_mix r (t + 1))
theorem kw_isDict {ex : List (Str × Value)} (t : Tok) (n : Nat) (hn : (ex.map (·.1)).Nodup) : (dictOf (kwEs w.params t ex) n).IsDictOf (mixKind prog w) (ex.map fun x => ((Sum.inr x.1 : Key), x.2)) :=
  ⟨(kwEs w.params t ex).toArray, n, ⟨rfl, rfl, rfl⟩, rfl, fun e he => by
    obtain ⟨k, u, hk, hh⟩ := kwEs_key ex t e (List.mem_toArray.mp he)
    exact ⟨Sum.inr k, by rw [hk]; exact mixKind_str prog w k u, hh.trans rfl⟩, kwEs_mix ex t, by
    rw [List.map_map]
    have z : (fun x : Str × Value => (Sum.inr x.1 : Key)) = Sum.inr ∘ (·.1) := rfl
    show (ex.map fun x => (Sum.inr x.1 : Key)).Nodup
    rw [z, ← List.map_map]
    exact List.Pairwise.map _ (fun a b h e => h (by injection e)) hn⟩
theorem ns_one {A : Around} {E : Value → Shared → Prop} {s : Shared} {d : Addr} {es : List DictEntry} {n : Nat} {k : Str} {v : Value} {Q : Unit → Shared → Prop} (hd : s.heap.get? d = some (dictOf es n))
    (hs : ∀ e ∈ es, e.key.isStr k = false) (hr : ∀ e ∈ es, e.refKey = false)
    (h : ∀ h', h'.get? d = some (dictOf (es ++ [⟨PyData.keyHash w.params k, .str k s.toks, v⟩]) (n + 1)) → (∀ b, b ≠ d → h'.get? b = s.heap.get? b) → h'.objs.size = s.heap.objs.size → Q () { s with heap := h', toks := s.toks + 1 }) :
    wpAny (model prog w) A (nsSet d k v) Q E s := by
  have e1 : es.any (·.key.isStr k) = false := List.any_eq_false.mpr fun e he => by rw [hs e he]; simp
  have e2 : es.any (·.refKey) = false := List.any_eq_false.mpr fun e he => by rw [hr e he]; simp
  have e : Obj.putName k (PyData.keyHash w.params k) (.str k s.toks) v (dictOf es n) = dictOf (es ++ [⟨PyData.keyHash w.params k, .str k s.toks, v⟩]) (n + 1) := by
    rw [putName_dict, putL_new hs]
    show dictOf _ (if es.any (·.key.isStr k) then n else n + 1) = _
    rw [e1, if_neg Bool.false_ne_true]
  have c : aRefKeyMayBeTheName k es.toArray = false := by
    rw [aRefKeyMayBeTheName_at, ← Array.any_toList, ← Array.any_toList]
    show (!es.any (·.key.isStr k) && es.any (·.refKey)) = false
    rw [e2, Bool.and_false]
  unfold nsSet
  refine wpAny_bind (wpAny_bind (wpAny_askSetting (wpAny_pure (wpAny_bind (wpAny_mkText (wpAny_bind (wpAny_loadPart hd ?_)))))))
  dsimp only
  rw [c]
  refine wpAny_updatePart hd (h _ ?_ (fun b hb => ?_) ?_)
  · refine (Heap.get?_update_self _ hd ?_).trans ?_
    · show (Obj.putName k (PyData.keyHash w.params k) (.str k s.toks) v (dictOf es n)).isFreed = false
      rw [e]
      rfl
    · show some (Obj.putName k (PyData.keyHash w.params k) (.str k s.toks) v (dictOf es n)) = _
      rw [e]
  · exact Heap.get?_update_other _ _ (Ne.symm hb)
  · exact Heap.size_after_update ..
theorem ns_fill {A : Around} {E : Value → Shared → Prop} {d : Addr} {Q : PUnit → Shared → Prop} : ∀ (ex : List (Str × Value)) (s : Shared) (es : List DictEntry) (n : Nat), s.heap.get? d = some (dictOf es n) →
    (∀ e ∈ es, ∀ x ∈ ex, e.key.isStr x.1 = false) → (∀ e ∈ es, e.refKey = false) → (ex.map (·.1)).Nodup →
    (∀ h', h'.get? d = some (dictOf (es ++ kwEs w.params s.toks ex) (n + ex.length)) → (∀ b, b ≠ d → h'.get? b = s.heap.get? b) → h'.objs.size = s.heap.objs.size → Q ⟨⟩ { s with heap := h', toks := s.toks + ex.length }) →
    wpAny (model prog w) A (forIn ex PUnit.unit fun x _ => (nsSet d x.1 x.2 >>= fun _ => pure (ForInStep.yield PUnit.unit))) Q E s
  | [], s, es, n, hd, _, _, _, h => by
    rw [List.forIn_nil]
    refine wpAny_pure (h s.heap ?_ (fun _ _ => rfl) rfl)
    show s.heap.get? d = some (dictOf (es ++ []) n)
    rw [List.append_nil]
    exact hd
  | x :: r, s, es, n, hd, hs, hr, hn, h => by
    obtain ⟨hn1, hn2⟩ := List.nodup_cons.mp (show (x.1 :: r.map (·.1)).Nodup from hn)
    rw [List.forIn_cons]
    refine wpAny_bind (wpAny_bind (ns_one hd (fun e he => hs e he x (.head _)) hr fun h' hd' but sz => wpAny_pure ?_))
    show wpAny (model prog w) A (forIn r PUnit.unit fun x _ => (nsSet d x.1 x.2 >>= fun _ => pure (ForInStep.yield PUnit.unit))) Q E { s with heap := h', toks := s.toks + 1 }
    refine ns_fill r { s with heap := h', toks := s.toks + 1 } _ _ hd' (fun e he y hy => ?_) (fun e he => ?_) hn2 fun h'' hd'' but' sz' => ?_
    · rcases List.mem_append.mp he with he | he
      · exact hs e he y (.tail _ hy)
      · obtain rfl := List.mem_singleton.mp he
        show (x.1 == y.1) = false
        exact beq_eq_false_iff_ne.mpr fun q => hn1 (by rw [q]; exact List.mem_map_of_mem hy)
    · rcases List.mem_append.mp he with he | he
      · exact hr e he
      · obtain rfl := List.mem_singleton.mp he
        rfl
    · have t1 : s.toks + 1 + r.length = s.toks + (r.length + 1) := by omega
      have t2 : n + 1 + r.length = n + (r.length + 1) := by omega
      show Q ⟨⟩ { s with heap := h'', toks := s.toks + 1 + r.length }
      rw [t1]
      refine h h'' ?_ (fun b hb => (but' b hb).trans (but b hb)) (sz'.trans sz)
      rw [t2, List.append_assoc] at hd''
      exact hd''
end
section
variable {CX : CXT} {P : Program} {w : World} {K : PySem.W.Frag} {mg : Str → Option Value} {base : Heap} {k : Nat} {f : Addr} {fd : FuncData} {a pd : Str}
/-- what def f(a, **pd) binds of f(u, k = v, ..) -/
def KwBinds (fd : FuncData) (a pd : Str) : Prop := ∀ (u : Value) (ex : List (Str × Value)), (∀ x ∈ ex, x.1 ≠ a) → ex.length ≤ sizeLine → bindArgs fd ⟨[u], ex⟩ =
  ((alloc ({ cls := .type "dict", data := .dict #[] } : Obj) : Sem Addr) >>= fun d => forIn ex PUnit.unit (fun x _ => (nsSet d x.1 x.2 >>= fun _ => pure (ForInStep.yield PUnit.unit))) >>= fun _ => pure [(a, u), (pd, Value.ref d)])
theorem kv_zip : ∀ {ks : List Str} {vs : List V} {us : List Value}, Vals vs us → ks.length = us.length → KV ((ks.map (Sum.inr : Str → Key)).zip vs) ((ks.zip us).map fun x => ((Sum.inr x.1 : Key), x.2))
  | [], _, _, _, _ => by
    simp only [List.map_nil, List.zip_nil_left]
    exact .nil
  | _ :: _, [], [], _, l => by cases l
  | _ :: _, _ :: _, _ :: _, .cons r rs, l => by
    simp only [List.map_cons, List.zip_cons_cons]
    exact .cons ⟨rfl, r⟩ (kv_zip rs (by simpa using l))
/-- the state behind one new object -/
theorem env0_new {A : Around} {outer : List Env} {s : Shared} {H : Hp} {u : HO} {h' : Heap} {t : Nat} (e0 : Env0 P w K mg base A outer s H) (kp : ∀ b o, s.heap.get? b = some o → h'.get? b = some o) (sz : s.heap.objs.size ≤ h'.objs.size) (new : ObjOk P w (upd H s.heap.objs.size u) h' s.heap.objs.size u) :
    Env0 P w K mg base A outer { s with heap := h', toks := t } (upd H s.heap.objs.size u) := by
  refine ⟨e0.frames, e0.mod, fun b o z => ?_, Nat.le_trans e0.bsz sz, ?_, fun b hb => ?_, ?_, e0.bare⟩
  · obtain ⟨z1, z2⟩ := e0.bs b o z
    exact ⟨kp b o z1, by rw [upd_ne (Nat.ne_of_lt (Heap.lt_size z1))]; exact z2⟩
  · exact Heap.FunFrames.of_keeps (fun b o z _ => ⟨o, kp b o z, rfl⟩) e0.funs
  · have z := e0.frf b hb
    obtain ⟨_, o, z1, _⟩ := e0.funs.mem hb
    rw [upd_ne (Nat.ne_of_lt (Heap.lt_size z1))]
    exact z
  · exact e0.hok.laid (P := P) (w := w) kp (Nat.le_refl _) new
/-- the dict of what is given by keywords is new -/
theorem kw_bnd {A : Around} {outer : List Env} {s : Shared} {H : Hp} {E : XK} {u : Value} {v : V} {ex : List (Str × Value)} {vs : List V} {us : List Value} {ks : List Str} (hCX : CXUp CX) (hb : KwBinds fd a pd) (e0 : Env0 P w K mg base A outer s H) (ru : RelV v u) (eex : ex = ks.zip us) (r : Vals vs us) (l : ks.length = us.length)
    (nd : ks.Nodup) (na : a ∉ ks) (small : ks.length ≤ sizeLine) :
    Bnd CX P w K mg base fd ⟨[u], ex⟩ [a, pd] A outer s H E (fun xs H2 => ∃ d, H d = none ∧ xs = [v, .ref d] ∧ H2 = upd H d (.dK ((ks.map Sum.inr).zip vs))) := by
  intro A' Ex Q h
  have hk : ex.map (·.1) = ks := by
    rw [eex]
    exact List.map_fst_zip (by rw [l]; exact Nat.le_refl _)
  have len : ex.length = ks.length := by rw [← hk, List.length_map]
  rw [hb u ex (fun x hx z => na (by rw [← hk, ← z]; exact List.mem_map_of_mem hx)) (by rw [len]; exact small)]
  refine wpAny_bind (wpAny_alloc (wpAny_bind ?_))
  refine ns_fill ex _ [] 0 (Heap.get?_push_size _ rfl) (fun _ he => nomatch he) (fun _ he => nomatch he) (by rw [hk]; exact nd) fun h' hd but sz => wpAny_pure ?_
  have fresh : H s.heap.objs.size = none := e0.hok.fresh (Nat.le_refl _)
  have kp : ∀ b o, s.heap.get? b = some o → h'.get? b = some o := fun b o e => (but b (Nat.ne_of_lt (Heap.lt_size e))).trans (Heap.get?_push_of_some _ e)
  have kvl : ((ks.map (Sum.inr : Str → Key)).zip vs).length ≤ sizeLine := by
    rw [List.length_zip, List.length_map]
    omega
  have new : ObjOk P w (upd H s.heap.objs.size (.dK ((ks.map Sum.inr).zip vs))) h' s.heap.objs.size (.dK ((ks.map Sum.inr).zip vs)) :=
    ⟨kvl, beq_eq_false_iff_ne.mpr (Ne.symm (Nat.ne_of_lt (env0_big e0))), _, by rw [eex] at hd; exact kv_zip r l, Heap.dictOf_iff.mpr ⟨_, hd, by rw [← eex]; exact kw_isDict _ _ (by rw [hk]; exact nd)⟩⟩
  have un : Un (frs outer) [] H (upd H s.heap.objs.size (.dK ((ks.map Sum.inr).zip vs))) s.heap h' := Un.laid kp (Nat.le_refl _) fresh
  exact h { s with heap := h', toks := s.toks + ex.length } _ [v, .ref s.heap.objs.size] [u, .ref s.heap.objs.size] (env0_new e0 kp (by rw [sz, Heap.size_push]; exact Nat.le_succ _) new) un rfl (fun e s' => hCX outer s H _ _ E e s' un kp rfl) (.cons ru (.cons rfl .nil)) rfl ⟨_, fresh, rfl, rfl⟩
end
end GL
set_option maxHeartbeats 4000000
/-! A method with **parts: its promise, its call o.m(k = v, ..). -/
namespace GL
open PySem PySem.Spec PyProof.Rows L2 StX
/-- what such a method promises: self, the keywords' names, their values -/
abbrev SpK := V → List Str → List V → Hp → VK → XK → Prop
def FnK (P : Program) (w : World) (K : PySem.W.Frag) (mg : Str → Option Value) (base : Heap) (CX : CXT) (k : Nat) (f : Addr) (a : Str) (sp : SpK) : Prop :=
  ∀ (A : Around) (outer : List Env) (s : Shared) (H : Hp) (u : Value) (v : V) (ks : List Str) (us : List Value) (vs : List V) (Q : VK) (E : XK), Room k A → Env0 P w K mg base A outer s H → RelV v u → Vals vs us → vs.length = ks.length → ks.Nodup → a ∉ ks → ks.length ≤ sizeLine →
    sp v ks vs H Q E → codeAny (model P w) A (.call (.ref f) ⟨[u], ks.zip us⟩) (CR CX outer P w H s Q E) s
section
variable {P : Program} {w : World} {K : PySem.W.Frag} {mg : Str → Option Value} {base : Heap}
theorem okK {CX : CXT} {k : Nat} {f : Addr} {x qual a pd : Str} {params : Arguments} {body : List Stmt} {scope : Scope} {fd : FuncData} {N : List Str} {sp : SpK} (F : FunD K x qual params body scope [] [] f fd) (S : FnScope N [a, pd] scope) (hCX : CXUp CX) (hb : KwBinds fd a pd)
    (hbody : ∀ (cdv : Value) (A : Around) (outer : List Env) (s : Shared) (H : Hp) (v : V) (ks : List Str) (vs : List V) (Q : VK) (E : XK) (d : Addr), Room k (A.deeper (envOfC qual scope s.heap.objs.size f cdv)) → H d = none → vs.length = ks.length → ks.Nodup → sp v ks vs H Q E →
      ∃ t, PSs (cxOf CX P w K mg base N qual scope f cdv A outer s (upd H d (.dK ((ks.map Sum.inr).zip vs))) E) body t ∧ t { nx := fun _ H' => Q .non H', rt := Q } (start N [v, .ref d]) (upd H d (.dK ((ks.map Sum.inr).zip vs)))) :
    FnK P w K mg base CX (k + 1) f a sp := by
  intro A outer s H u v ks us vs Q E hr e0 ru rv lv nd na small hsp
  obtain ⟨oc, od, dV, kV, doc, pm, an, cdv, ct, osl, rfl, lk, hcd, _, _⟩ := F.ex
  have l : ks.length = us.length := by rw [← lv]; exact Paired.length rv
  refine run_bnd lk hcd S hr e0 (kw_bnd hCX hb e0 ru rfl rv l nd na small) fun s2 H2 xs g hr' => ?_
  obtain ⟨d, hd, rfl, rfl⟩ := g
  exact hbody cdv A outer s2 H v ks vs Q E d hr' hd lv nd hsp
end
section
variable {X : Cx} {CX : CXT} {E : XK} {k : Nat} {sp : SpK} {C f : Addr} {ks : List Str} {kws : List Keyword} {tk : TA} {ta : TE} {o : Expr} {m a : Str} {pos apos : Pos} {pl : Sem Bool}
/-- o.m(k = v, ..), m(self, **parts) -/
theorem pe_methK (he : PE X o ta) (c : Cls X.K C) (hm : Meth X.K C m f) (F : FnK X.prog X.w X.K X.mg X.base CX k f a sp) (hr : Room k X.A) (hx : Passes CX X E) (hkw : PK X kws tk) (nd : ks.Nodup) (na : a ∉ ks) (small : ks.length ≤ sizeLine)
    (hall : (backToKw pos (keywordEach kws X.env)).all (·.1.isSome) = true := by rfl) (hks : (backToKw pos (keywordEach kws X.env)).filterMap (·.1) = ks := by rfl)
    (hpl : ((backTo pos (starEach [] X.env)).any (·.1) || (backToKw pos (keywordEach kws X.env)).any (·.1.isNone)) = false := by rfl)
    (ht : eval (.Call (.Attribute o m apos) [] kws pos) X.env = (do let ov ← eval o X.env; standAt apos.atName; let (f, first) ← holding [ov] (getMethod ov m pl); callWith pos f first (backTo pos (starEach [] X.env)) (backToKw pos (keywordEach kws X.env))) := by rfl) :
    PE X (.Call (.Attribute o m apos) [] kws pos) (fun σ H Q => ta σ H fun x H1 => ∃ a dx fs, x = .ref a ∧ H1 a = some (.ins C dx fs) ∧ fs.lookup m = none ∧ tk σ H1 fun zs H2 => zs.length = ks.length ∧ sp x ks zs H2 Q E) := by
  constructor
  intro pins s σ H Q I h
  refine PySem.W.methodCall_KW (thn (he.run pins s σ H _ I h) ?_) ht
  rintro u s1 ⟨x, H1, I1, rx, a, dx, fs, rfl, ea, l, q⟩
  cases (show u = Value.ref a from rx)
  refine getmeth_ok I1 ea c hm l ?_
  refine PySem.W.callWith_KW0 (h₀ := X.base) I.ok.mod.kin hm.kp hall ?_ hpl
  refine thn (hkw.run pos pins s1 σ H1 _ I1 q) ?_
  rintro ws s2 ⟨zs, H2, I2, rz, l2, q⟩
  refine ⟨I2.kIn, ?_⟩
  rw [hks]
  refine wpAny_call (codeAny_mono (F X.A X.stack s2 H2 (.ref a) (.ref a) ks ws zs Q E hr I2.env0 rfl rz l2 nd na small q) fun r' s' z => ?_)
  match r', z with
  | .error er, z => exact hx pins σ H2 s2 er s' I2 z
  | .ok .next, z => exact False.elim z
  | .ok .brk, z => exact False.elim z
  | .ok .cont, z => exact False.elim z
  | .ok (.ret u), z => exact I2.after z
end
end GL
set_option maxHeartbeats 4000000
namespace K18
open PySem PySem.Spec PyProof.Rows L2 GL StX
theorem forIn_ext {A B : Type} {fn : B → A × List B → Sem (ForInStep (A × List B))} : ∀ (r : List B) (a : A) (extra : List B), (∀ x ∈ r, ∀ s, fn x s = pure (.yield (s.1, s.2 ++ [x]))) → forIn r (a, extra) fn = pure (a, extra ++ r)
  | [], a, extra, _ => by
    rw [List.forIn_nil, List.append_nil]
  | x :: r, a, extra, h => by
    rw [List.forIn_cons, h x List.mem_cons_self]
    show forIn r (a, extra ++ [x]) fn = _
    rw [forIn_ext r a (extra ++ [x]) fun y hy => h y (List.mem_cons_of_mem _ hy), List.append_assoc]
    rfl
theorem pure_then {α β : Type} (a : α) (f : α → Sem β) : (pure a >>= f) = f a := rfl
theorem changed_kw {K : PySem.W.Frag} {f : Addr} {fd : FuncData} (F : FunD K "changed" "Rule.changed" (defArgs (sRule 6)) (defBody (sRule 6)) (defScope (sRule 6)) [] [] f fd) : KwBinds fd "self" "parts" := by
  obtain ⟨oc, od, dV, kV, doc, pm, an, cdv, ct, osl, rfl, lk, hcd, hD, hK⟩ := F.ex
  rcases hD with ⟨_, rfl⟩ | ⟨e, _⟩
  · intro u ex na small
    have ea : defArgs (sRule 6) = { posonlyargs := [], args := (defArgs (sRule 6)).args, vararg := none, kwonlyargs := [], kw_defaults := [], kwarg := (defArgs (sRule 6)).kwarg, defaults := [] } := by rfl
    have e1 : (defArgs (sRule 6)).posonlyargs.map (·.arg) = ([] : List Str) := by rfl
    have e2 : (defArgs (sRule 6)).args.map (·.arg) = [("self" : Str)] := by rfl
    have e3 : (defArgs (sRule 6)).kwonlyargs.map (·.arg) = ([] : List Str) := by rfl
    have e4 : (defArgs (sRule 6)).vararg = none := by rfl
    have e5 : ∃ ag, (defArgs (sRule 6)).kwarg = some ag ∧ ag.arg = ("parts" : Str) := ⟨_, by rfl, by rfl⟩
    obtain ⟨ag, e5, e6⟩ := e5
    unfold bindArgs PySem.W.fnOf
    dsimp only
    rw [e1, e2, e3, e4, e5]
    simp only [List.nil_append, List.length_cons, List.length_nil, List.zip_cons_cons, List.zip_nil_right, Option.isSome_some, if_true]
    rw [forIn_ext ex [(("self" : Str), u)] [] fun x hx s => ?_]
    · rw [pure_then]
      have sm : ¬ ex.length > sizeLine + 1 := by omega
      have sq : seqItems? Value.none = pure none := rfl
      rw [sq, pure_then]
      simp only [List.nil_append, if_neg sm]
      rw [e6]
      rfl
    · have n1 : ([("self" : Str)].contains x.1 || ([] : List Str).contains x.1) = false := by
        have z := na x hx
        simp [z]
      rw [n1]
      rfl
  · exact absurd rfl e
end K18
set_option maxHeartbeats 4000000
namespace K18
open PySem PySem.Spec PyProof.Rows L2 GL StX
def partsL : List Str := ["goal", "answer", "when", "moves"]
section
variable {P : Program} {w : World} {K : PySem.W.Frag} {mg : Str → Option Value} {base : Heap}
structure CH (P : Program) (w : World) (K : PySem.W.Frag) (mg : Str → Option Value) (base : Heap) : Prop where
  R : RU P w K mg base
  parts : ∃ a, mg "PARTS" = some (.ref a) ∧ ∀ H, SqT K H a (partsL.map V.str)
  mU : ∃ f fd gU, Mk K (aRu K) f ∧ FnOk P w K mg base (L2.CX P w) 5 f fd ["self", "goal", "answer", "when", "moves"] (spRuleI K) ∧ KBn K fd ["self", "goal", "answer", "when", "moves"] 3 ["when", "moves"] gU (fun vs zs => vs ++ zs)
abbrev nChanged : List Str := ["self", "parts", "name", "goal", "answer"]
theorem scChanged : FnScope nChanged ["self", "parts"] (defScope (sRule 6)) := ⟨rfl, rfl, rfl, by decide +kernel, rfl, by decide +kernel, by decide +kernel⟩
/-- what Rule.changed does -/
def known (u : Str) : Bool := inV (.str u) (partsL.map V.str)
def pick (ks : List Str) (vs : List V) (k : Str) (z : V) : V := (valV ((ks.map (Sum.inr : Str → Key)).zip vs) (Sum.inr k)).getD z
def spChanged (K : PySem.W.Frag) : SpK := fun v ks vs H Q E => ∃ (s dx : Addr) (g0 a0 w0 m0 : V), v = .ref s ∧ H s = some (.ins (aRu K) dx [("_goal", g0), ("_answer", a0), ("_when", w0), ("_moves", m0)]) ∧ ks.length < 64 ∧
  ((∀ ys : List Str, ys.Perm ks → sortedS ys = true → ∃ (j : Nat) (u : Str), ys[j]? = some u ∧ known u = false ∧ (∀ (i : Nat) (u' : Str), i < j → ys[i]? = some u' → known u' = true) ∧ outW (aIA K) [("value", .str u)] H E) ∨
   ((∀ u ∈ ks, known u = true) ∧ ∀ H2 x dx', Same H H2 → H2 x = none → H2 dx' = none → dx' ≠ x → spRuleI K [.ref x, pick ks vs "goal" g0, pick ks vs "answer" a0, pick ks vs "when" w0, pick ks vs "moves" m0] (upd (upd H2 dx' (.own x)) x (.ins (aRu K) dx' [])) (fun v H3 => v = .non ∧ Q (.ref x) H3) E))
theorem ok_changed {f : Addr} {fd : FuncData} (F : FunD K "changed" "Rule.changed" (defArgs (sRule 6)) (defBody (sRule 6)) (defScope (sRule 6)) [] [] f fd) (Z : CH P w K mg base) : FnK P w K mg base (L2.CX P w) 7 f "self" (spChanged K) := by
  obtain ⟨fU, fdU, gU, MU, GU, KU⟩ := Z.mU
  obtain ⟨aP, gP, hP⟩ := Z.parts
  obtain ⟨fA, fdA, a1, a2, GA_, bA⟩ := Z.R.Z.mA
  have T := Z.R.U
  have N := Z.R.N
  refine okK F scChanged cxUp (changed_kw F) fun cdv A outer s H v ks vs Q E d hr hd lv nd h => ?_
  have r2 : Room 2 _ := hr.mono (by decide)
  have hu := hr.units
  have hu1 : (A.deeper (envOfC "Rule.changed" (defScope (sRule 6)) s.heap.objs.size f cdv)).units + 1 < cLine := by omega
  have main : ∃ t, PSs (cxOf (L2.CX P w) P w K mg base nChanged "Rule.changed" (defScope (sRule 6)) f cdv A outer s (upd H d (.dK ((ks.map Sum.inr).zip vs))) E) (defBody (sRule 6)) t ∧ t { nx := fun _ H' => Q .non H', rt := Q } (start nChanged [v, .ref d]) (upd H d (.dK ((ks.map Sum.inr).zip vs))) := by
    refine ⟨_, pss_cons (ps_for (passes_of rfl) rfl (pi_list (pe_callB (call_sortedD rfl) (by rfl) Z.R.srt (by decide +kernel) (pa_cons (pv 1) pa_nil))) (pg_name (i := 2) scChanged.nd rfl (.inl rfl))
        (pss_one (ps_if (pt_cmpR op_notIn_seq (pv 2) (pe_glob (v := .ref aP) rfl gP rfl) (by with_unfolding_all rfl)) (pss_one (ps_raise rfl (takes_of rfl rfl rfl rfl) (pmk_x Z.R.Z.xA a1 a2 GA_ r2 bA rfl Z.R.Z.gA (pa_cons (pv 2) pa_nil)))) pss_nil)))
      (pss_cons (ps_par (i := 3) (j := 4) (by rfl) scChanged.nd rfl rfl (by decide) rfl rfl (pa_cons (pe_dget2 hu1 (pv 1) pe_str (pe_fld (pv 0) rfl) ⟨rfl, rfl, rfl, rfl⟩) (pa_cons (pe_dget2 hu1 (pv 1) pe_str (pe_fld (pv 0) rfl) ⟨rfl, rfl, rfl, rfl⟩) pa_nil)) (by rfl))
      (pss_one (ps_ret (pe_makeK MU GU hr rfl T.gU KU (passE (takes_of rfl rfl rfl rfl)) (pa_cons (pv 3) (pa_cons (pv 4) pa_nil))
        (pk_cons (pe_dget2 hu1 (pv 1) pe_str (pe_fld (pv 0) rfl) ⟨rfl, rfl, rfl, rfl⟩) (pk_cons (pe_dget2 hu1 (pv 1) pe_str (pe_fld (pv 0) rfl) ⟨rfl, rfl, rfl, rfl⟩) pk_nil)))))), ?_⟩
    obtain ⟨s0, dx, g0, a0, w0, m0, rfl, es, l64, h⟩ := h
    have ud := same_new (o := .dK ((ks.map Sum.inr).zip vs)) hd
    have hdd : upd H d (.dK ((ks.map Sum.inr).zip vs)) d = some (.dK ((ks.map Sum.inr).zip vs)) := upd_same
    generalize upd H d (.dK ((ks.map Sum.inr).zip vs)) = H1 at *
    have ek : ((ks.map (Sum.inr : Str → Key)).zip vs).map (·.1) = ks.map Sum.inr := List.map_fst_zip (by rw [List.length_map, lv]; exact Nat.le_refl _)
    refine ⟨_, rfl, d, _, ks, rfl, .of hdd, ek, l64, fun ys l pm so nl => ?_⟩
    have ul := same_new (o := .lst (ys.map V.str)) nl
    have hl : upd H1 l (.lst (ys.map V.str)) l = some (.lst (ys.map V.str)) := upd_same
    generalize upd H1 l (.lst (ys.map V.str)) = H2 at *
    have s12 := ud.trans ul
    refine ⟨l, rfl, ⟨_, SqL.of hl⟩, ?_⟩
    have fl : (partsL.map V.str).all flatV = true := by decide
    rcases h with h | ⟨all, k⟩
    · obtain ⟨j, u, hj, bad, bef, out⟩ := h ys pm so
      refine for_it walk_list (fun i z G => i ≤ j ∧ Same H2 G ∧ ∃ v2, z = [some (.ref s0), some (.ref d), v2, none, none]) ⟨Nat.zero_le _, fun _ _ e => e, none, rfl⟩ (fun i z G _ h => L2.SqL.ext (SqL.of hl) h.2.1) ?_ ?_
      · rintro i y z G G' hi ⟨le, sG, v2, rfl⟩ ⟨rfl, e2⟩
        rw [List.getElem?_map] at e2
        obtain ⟨u', hu2, rfl⟩ := Option.map_eq_some_iff.mp e2
        rcases Nat.lt_or_eq_of_le le with lt | rfl
        · have kn := bef i u' lt hu2
          refine ⟨_, rfl, aP, _, rfl, .inr (hP _), rfl, fl, _, rfl, ?_⟩
          rw [show inV (.str u') (partsL.map V.str) = true from kn]
          exact iteF ⟨lt, sG, _, rfl⟩
        · obtain rfl : u = u' := Option.some.inj (hj.symm.trans hu2)
          refine ⟨_, rfl, aP, _, rfl, .inr (hP _), rfl, fl, _, rfl, ?_⟩
          rw [show inV (.str u) (partsL.map V.str) = false from bad]
          exact iteT ⟨_, rfl, rfl, by show 1 ≤ 1000; decide, fun d H2 k2 n2 e3 => (out.same (s12.trans sG)) d H2 k2 n2 e3⟩
      · rintro z G ⟨le, _⟩
        rw [List.length_map] at le
        exact absurd (List.getElem?_eq_some_iff.mp hj).1 (Nat.not_lt.mpr le)
    · refine for_it walk_list (fun i z G => Same H2 G ∧ ∃ v2, z = [some (.ref s0), some (.ref d), v2, none, none]) ⟨fun _ _ e => e, none, rfl⟩ (fun i z G _ h => L2.SqL.ext (SqL.of hl) h.1) ?_ ?_
      · rintro i y z G G' hi ⟨sG, v2, rfl⟩ ⟨rfl, e2⟩
        rw [List.getElem?_map] at e2
        obtain ⟨u', hu2, rfl⟩ := Option.map_eq_some_iff.mp e2
        have kn := all u' (pm.mem_iff.mp (List.mem_of_getElem? hu2))
        refine ⟨_, rfl, aP, _, rfl, .inr (hP _), rfl, fl, _, rfl, ?_⟩
        rw [show inV (.str u') (partsL.map V.str) = true from kn]
        exact iteF ⟨sG, _, rfl⟩
      · rintro z G ⟨sG, v2, rfl⟩
        have sH := s12.trans sG
        have esG := sH _ _ es
        have hdG := (ul.trans sG) _ _ hdd
        refine ⟨_, rfl, d, rfl, .inl ⟨_, .of hdG⟩, _, rfl, s0, _, dx, _, _, rfl, esG, T.cl, T.nG, rfl, _, .inl ⟨_, .inr "goal", .of hdG, rfl, rfl⟩, ?_⟩
        refine ⟨_, rfl, d, rfl, .inl ⟨_, .of hdG⟩, _, rfl, s0, _, dx, _, _, rfl, esG, T.cl, T.nA, rfl, _, .inl ⟨_, .inr "answer", .of hdG, rfl, rfl⟩, ?_⟩
        refine ⟨_, _, rfl, ?_⟩
        refine ⟨_, rfl, _, rfl, ?_⟩
        refine ⟨_, rfl, d, rfl, .inl ⟨_, .of hdG⟩, _, rfl, s0, _, dx, _, _, rfl, esG, T.cl, T.nW, rfl, _, .inl ⟨_, .inr "when", .of hdG, rfl, rfl⟩, ?_⟩
        refine ⟨_, rfl, d, rfl, .inl ⟨_, .of hdG⟩, _, rfl, s0, _, dx, _, _, rfl, esG, T.cl, T.nM, rfl, _, .inl ⟨_, .inr "moves", .of hdG, rfl, rfl⟩, ?_⟩
        exact ⟨rfl, rfl, fun x dx' hx hd' ne => k G x dx' sH hx hd' ne⟩
  exact main
end
end K18
set_option maxHeartbeats 4000000
/-! xs[::-1] of a list. -/
namespace GL
open PySem PySem.Spec PyProof.Rows L2
/-- a new list, the other way round -/
def tRev (K : PySem.W.Frag) (te : TE) (tk : TO) : TE := fun z H Q => te z H fun x H1 => tk z H1 fun k H2 => k = some (-1) ∧ ∃ a xs, x = .ref a ∧ SqL K H2 a xs ∧ ∀ p, H2 p = none → Q (.ref p) (upd H2 p (.lst xs.reverse))
theorem pe_rev {X : Cx} {e st : Expr} {te : TE} {tk : TO} {pos p2 : Pos} (he : PE X e te) (hk : PO X (some st) tk)
    (hs : ∀ a l : Addr, subscripted (.Slice none none (some st) p2) false (.ref a) (.ref l) = operate [.ref a, .ref l] (getItem (.ref a) (.ref l)) := by intros; with_unfolding_all rfl) : PE X (.Subscript e (.Slice none none (some st) p2) pos) (tRev X.K te tk) := by
  constructor
  intro pins s z H Q I h
  apply Subscript_
  refine thn (he.run pins s z H _ I h) ?_
  rintro v s1 ⟨x, H1, I1, r1, q1⟩
  apply wpAny_Slice
  rw [evalPart_none]
  apply wpAny_pure
  apply wpAny_pure
  refine thn (hk.run pins s1 z H1 _ I1 q1) ?_
  rintro vk s2 ⟨k, H2, I2, pk, rfl, a, xs, rfl, hx, q⟩
  cases (show v = Value.ref a from r1)
  have I3 : Inv X pins z H2 { s2 with heap := s2.heap.push { cls := .type "slice", data := .fields #[.none, .none, vk] } } := I2.kept (t' := s2.toks) fun b o y => Heap.get?_push_of_some _ y
  obtain ⟨its, r, ht, hz⟩ := I3.list hx
  have hlen := r.length
  show wpAny (model X.prog X.w) X.A (subscriptTail e (.Slice none none (some st) p2) (.ref a) (.ref s2.heap.objs.size)) (EP X pins z Q) X.xe { s2 with heap := s2.heap.push { cls := .type "slice", data := .fields #[.none, .none, vk] } }
  refine tail_any (ops := [.ref a, .ref s2.heap.objs.size]) ht.isList.typeIs slot_list_getitem.lookup ?_ (hs _ _)
  refine wpAny_getItem_list_slice ht.isList (Heap.IsSliceOf.new ..) .none .none pk (by decide) ?_ (by rw [List.size_toArray]; omega)
  rw [PySem.W.krv_pick]
  refine ⟨.ref _, _, I3.laid (t' := s2.toks) (o := .lst xs.reverse) (fun b o y => Heap.get?_push_of_some _ y) (Nat.le_refl _) ?_, rfl, q _ (I3.hok.fresh (Nat.le_refl _))⟩
  refine ⟨by rw [List.length_reverse]; omega, its.reverse, 0, paired_rev r, Heap.get?_push_size _ rfl⟩
/-! ### a statement, its end told once for all its ways -/
def tCut (t u : TS) : TS := fun D z H => ∃ Mid : L2.St → Hp → Prop, t { D with nx := Mid } z H ∧ ∀ z' H', Mid z' H' → u D z' H'
theorem pss_cut {X : Cx} {st : Stmt} {rest : List Stmt} {t u : TS} (one : PS X st t) (more : PSs X rest u) : PSs X (st :: rest) (tCut t u) := by
  constructor
  intro pins s z H D I ⟨Mid, first, go⟩
  apply wpAny_execs_cons
  refine thn (one.run pins s z H { D with nx := Mid } I first) ?_
  intro f s1 q
  match f, q with
  | .ret v, q => exact q
  | .brk, q => exact q
  | .cont, q => exact q
  | .next, ⟨z', H', J, m⟩ => exact more.run pins s1 z' H' D J (go z' H' m)
end GL
set_option maxHeartbeats 4000000
namespace K18
open PySem PySem.Spec PyProof.Rows L2 GL
abbrev sRng : Stmt := tp 46
abbrev sDraw : Stmt := tp 47
abbrev sChoice : Stmt := tp 48
/-- names of Python's own that the module leaves alone -/
structure Free (mg : Str → Option Value) : Prop where
  len : mg "len" = none
  abs : mg "abs" = none
  max : mg "max" = none
  min : mg "min" = none
  int : mg "int" = none
  divmod : mg "divmod" = none
  range : mg "range" = none
  all : mg "all" = none
  str : mg "str" = none
  list : mg "list" = none
  repr : mg "repr" = none
  any : mg "any" = none
/-- the state of a drawing: a list of two numbers -/
def Rng (H : Hp) (p : Addr) : Prop := ∃ x y : Int, H p = some (.lst [.int x, .int y]) ∧ 0 ≤ y ∧ y < 2 ^ 40
def spRng (K : PySem.W.Frag) : Sp := fun vs H Q _ => ∃ (a : Addr) (ns : List Int) (i : Int), vs = [.ref a, .int i] ∧ SqL K H a (ns.map V.int) ∧ 0 ≤ i ∧ i < 100 ∧
  ∀ p H', H p = none → Same H H' → Rng H' p → Q (.ref p) H'
section
variable {P : Program} {w : World} {K : PySem.W.Frag} {mg : Str → Option Value} {base : Heap}
theorem scRng : FnScope ["_law_script", "_law_index", "_law_cell"] ["_law_script", "_law_index"] (defScope sRng) := ⟨rfl, rfl, rfl, by decide +kernel, rfl, by decide +kernel, by decide +kernel⟩
theorem fm_bd (a : Int) {b : Int} (hb : 0 < b) : 0 ≤ a.fmod b ∧ a.fmod b < b := by
  rw [Int.fmod_eq_emod_of_nonneg _ (by omega)]
  exact ⟨Int.emod_nonneg _ (by omega), Int.emod_lt_of_pos _ hb⟩
theorem ok_rng {f : Addr} {fd : FuncData} (F : Fun K "_law_pot" "_law_pot" sRng f fd) (T : Free mg) : FnOk P w K mg base CX0 1 f fd ["_law_script", "_law_index"] (spRng K) := by
  refine F.ok scRng (fun vs H Q E h => ?_) (fun cdv A outer s H vs Q E hr h => ?_)
  · obtain ⟨a, ns, i, rfl, _⟩ := h
    rfl
  · obtain ⟨a, ns, i, rfl, hS, i0, i1, k⟩ := h
    refine ⟨_, pss_cons (ps_set (i := 2) scRng.nd rfl (Or.inl rfl)
        (pe_ifExp (pt_cmpR op_lt (pv 1) (pe_callB call_len_seq (by rfl) T.len PySem.boot_len (pa_cons (pv 0) pa_nil)) (nomark _))
          (pe_callB call_abs (by rfl) T.abs (by decide +kernel) (pa_cons (pe_ix ix_list (pv 0) (pv 1) (fun _ _ => rfl)) pa_nil))
          (pe_op op_add (pe_op op_mul pe_int (pv 1)) pe_int)))
      (pss_one (ps_ret (pe_lst (pa_cons (pe_callB (call_max2 rfl) (by rfl) T.max (by decide +kernel) (pa_cons pe_int (pa_cons (pe_op op_sub (pv 2) (pe_op op_pow pe_int pe_int)) pa_nil)))
        (pa_cons (pe_op op_modN (pe_callTy call_int1 (by rfl) T.int (by decide +kernel) (pa_cons
          (pe_op op_add (pe_op op_add (pe_op op_mul (pe_op op_modN (pe_callTy call_int1 (by rfl) T.int (by decide +kernel) (pa_cons (pv 2) pa_nil)) pe_int) pe_int) (pe_op op_mul pe_int (pv 1))) pe_int) pa_nil)) pe_int) pa_nil))))), ?_⟩
    refine ⟨_, rfl, _, rfl, _, _, rfl, .inl hS, _, _, rfl, rfl, _, rfl, ?_⟩
    refine ite2 (fun c => ?_) (fun c => ?_)
    · have c' : i < ((ns.map V.int).length : Int) := of_decide_eq_true c
      obtain ⟨j, rfl⟩ : ∃ j : Nat, i = (j : Int) := ⟨i.toNat, by omega⟩
      have hj : j < ns.length := by rw [List.length_map] at c'; omega
      refine ⟨_, rfl, _, rfl, a, _, _, V.int ns[j], rfl, rfl, hS, atI_nat (by rw [List.getElem?_map, List.getElem?_eq_getElem hj]; rfl), _, rfl, ?_⟩
      generalize (if ns[j] < 0 then -ns[j] else ns[j]) = c
      (refine ⟨_, rfl, _, _, rfl, rfl, ⟨by decide, by decide, by decide⟩, _, _, rfl, rfl, _, _, rfl, _, rfl, .inl ⟨_, rfl, _, _, rfl, rfl, (by show (2147483563 : Int) ≠ 0; decide), _, _, rfl, rfl, .inr ⟨by decide, by decide⟩,
        _, rfl, _, _, rfl, rfl, .inl ⟨by decide, by decide⟩, _, _, rfl, rfl, _, _, rfl, rfl, .inl ⟨_, rfl, _, _, rfl, rfl, (by show (2147483647 : Int) ≠ 0; decide), by show 2 ≤ sizeLine; decide, fun p hp => ?_⟩⟩⟩
       refine k p _ hp (fun b o e => by rw [upd_ne (ne_of_none e hp)]; exact e) ⟨_, _, upd_same, ?_⟩
       have q := fm_bd (c.fmod 2147483563 * 40014 + 50021 * (j : Int) + 37) (b := 2147483647) (by decide)
       exact ⟨by omega, by omega⟩)
    · refine ⟨_, rfl, _, _, rfl, rfl, .inl ⟨by decide, by decide⟩, _, _, rfl, rfl, ?_⟩
      (refine ⟨_, rfl, _, _, rfl, rfl, ⟨by decide, by decide, by decide⟩, _, _, rfl, rfl, _, _, rfl, _, rfl, .inl ⟨_, rfl, _, _, rfl, rfl, (by show (2147483563 : Int) ≠ 0; decide), _, _, rfl, rfl, .inr ⟨by decide, by decide⟩,
        _, rfl, _, _, rfl, rfl, .inl ⟨by decide, by decide⟩, _, _, rfl, rfl, _, _, rfl, rfl, .inl ⟨_, rfl, _, _, rfl, rfl, (by show (2147483647 : Int) ≠ 0; decide), by show 2 ≤ sizeLine; decide, fun p hp => ?_⟩⟩⟩
       refine k p _ hp (fun b o e => by rw [upd_ne (ne_of_none e hp)]; exact e) ⟨_, _, upd_same, ?_⟩
       have q := fm_bd ((9 * i + 4).fmod 2147483563 * 40014 + 50021 * i + 37) (b := 2147483647) (by decide)
       exact ⟨by omega, by omega⟩)
/-! ### a number drawn -/
def spDraw : Sp := fun vs H Q _ => ∃ (p : Addr) (m : Int), vs = [.ref p, .int m] ∧ Rng H p ∧ 0 < m ∧ m < 1000000000 ∧
  ∀ d H', 0 ≤ d → d < m → (∀ b o, H b = some o → b ≠ p → H' b = some o) → Rng H' p → Q (.int d) H'
theorem scDraw : FnScope ["_law_pot_here", "_law_many", "_law_digit"] ["_law_pot_here", "_law_many"] (defScope sDraw) := ⟨rfl, rfl, rfl, by decide +kernel, rfl, by decide +kernel, by decide +kernel⟩
theorem ok_draw {f : Addr} {fd : FuncData} (F : Fun K "_law_draw" "_law_draw" sDraw f fd) (T : Free mg) : FnOk P w K mg base CX0 1 f fd ["_law_pot_here", "_law_many"] spDraw := by
  refine F.ok scDraw (fun vs H Q E h => ?_) (fun cdv A outer s H vs Q E hr h => ?_)
  · obtain ⟨p, m, rfl, _⟩ := h
    rfl
  · obtain ⟨p, m, rfl, ⟨x, y, hp, y0, y1⟩, m0, m1, k⟩ := h
    refine ⟨_, pss_cons (ps_if (pt_cmpR op_gt (pe_ix ix_list (pv 0) pe_int (fun _ _ => rfl)) pe_int (nomark _))
        (pss_cons (ps_asg (pe_callB call_divmod (by rfl) T.divmod (by decide +kernel) (pa_cons (pe_ix ix_list (pv 0) pe_int (fun _ _ => rfl)) (pa_cons (pv 1) pa_nil)))
            (pg_tup (by rfl) (pgs_cons (pg_sub (pv 0) pe_int set_list) (pgs_cons (pg_name (i := 2) scDraw.nd rfl (.inl rfl)) pgs_nil))))
          (pss_one (ps_ret (pv 2)))) pss_nil)
      (pss_cons (ps_asg (pe_op op_modN (pe_callTy call_int1 (by rfl) T.int (by decide +kernel) (pa_cons (pe_op op_add (pe_op op_mul (pe_ix ix_list (pv 0) pe_int (fun _ _ => rfl)) pe_int) pe_int) pa_nil)) pe_int) (pg_sub (pv 0) pe_int set_list))
        (pss_one (ps_ret (pe_op op_modN (pe_callTy call_int1 (by rfl) T.int (by decide +kernel) (pa_cons (pe_op op_fdiv (pe_op op_modN (pe_callTy call_int1 (by rfl) T.int (by decide +kernel)
          (pa_cons (pe_op op_mul (pe_ix ix_list (pv 0) pe_int (fun _ _ => rfl)) (pe_ix ix_list (pv 0) pe_int (fun _ _ => rfl))) pa_nil)) pe_int) pe_int) pa_nil)) (pv 1))))), ?_⟩
    refine ⟨_, rfl, p, _, _, _, rfl, rfl, SqL.of hp, rfl, _, _, rfl, rfl, _, rfl, ?_⟩
    refine ite2 (fun c => ?_) (fun c => ?_)
    · refine ⟨_, rfl, p, _, _, _, rfl, rfl, SqL.of hp, rfl, _, rfl, ?_⟩
      refine ⟨_, _, rfl, ⟨m0, by omega⟩, fun t ht => ?_⟩
      have hpt : p ≠ t := ne_of_none hp ht
      refine ⟨t, _, rfl, SqT.of upd_same, rfl, _, _, rfl, _, rfl, p, _, _, 0, rfl, rfl, by rw [upd_ne hpt]; exact hp, rfl, _, _, rfl, rfl, _, rfl, ?_⟩
      refine k _ _ (Int.emod_nonneg _ (by omega)) (Int.emod_lt_of_pos _ m0) (fun b o e hb => by rw [upd_ne hb, upd_ne (ne_of_none e ht)]; exact e) ⟨_, _, upd_same, y0, y1⟩
    · refine ⟨_, rfl, p, _, _, _, rfl, rfl, SqL.of hp, rfl, _, _, rfl, rfl, .inr ⟨by decide, by decide⟩, _, _, rfl, rfl, .inl ⟨_, rfl, _, _, rfl, rfl, (by show (2147483629 : Int) ≠ 0; decide), _, rfl, p, _, _, 1, rfl, rfl, hp, rfl, ?_⟩⟩
      have q := fm_bd (y * 39373 + 12227) (b := 2147483629) (by decide)
      refine ⟨_, rfl, p, _, _, _, rfl, rfl, SqL.of upd_same, rfl, _, rfl, p, _, _, _, rfl, rfl, SqL.of upd_same, rfl, _, _, rfl, rfl, .inl ⟨by omega, by omega⟩, .inl ⟨_, rfl, _, _, rfl, rfl, (by show (2147483563 : Int) ≠ 0; decide), _, _, rfl, rfl, ⟨by decide, by decide⟩,
        .inl ⟨_, rfl, _, rfl, _, _, rfl, rfl, (by show m ≠ 0; omega), ?_⟩⟩⟩
      have r := fm_bd (((y * 39373 + 12227).fmod 2147483629 * (y * 39373 + 12227).fmod 2147483629).fmod 2147483563 / 13) m0
      exact k _ _ r.1 r.2 (fun b o e hb => by rw [upd_ne hb]; exact e) ⟨_, _, upd_same, by omega, by omega⟩

/-! ### one of several -/
def spChoice (K : PySem.W.Frag) : Sp := fun vs H Q _ => ∃ (p l : Addr) (xs : List V), vs = [.ref p, .ref l] ∧ Rng H p ∧ H l = some (.lst xs) ∧ l ≠ p ∧ 0 < xs.length ∧ xs.length < 1000 ∧
  ∀ v H', v ∈ xs → (∀ b o, H b = some o → b ≠ p → H' b = some o) → Rng H' p → Q v H'
theorem scChoice : FnScope ["_law_pot_here", "_law_some"] ["_law_pot_here", "_law_some"] (defScope sChoice) := ⟨rfl, rfl, rfl, by decide +kernel, rfl, by decide +kernel, by decide +kernel⟩
theorem ok_choice {f fD : Addr} {fd fdD : FuncData} (F : Fun K "_law_pick" "_law_pick" sChoice f fd) (T : Free mg) (FD : Fun K "_law_draw" "_law_draw" sDraw fD fdD) (gD : mg "_law_draw" = some (.ref fD)) (bD : Binds K fdD ["_law_pot_here", "_law_many"] []) :
    FnOk P w K mg base CX0 2 f fd ["_law_pot_here", "_law_some"] (spChoice K) := by
  have GD : FnOk P w K mg base CX0 1 fD fdD ["_law_pot_here", "_law_many"] spDraw := ok_draw FD T
  refine F.ok scChoice (fun vs H Q E h => ?_) (fun cdv A outer s H vs Q E hr h => ?_)
  · obtain ⟨p, l, xs, rfl, _⟩ := h
    rfl
  · obtain ⟨p, l, xs, rfl, R, hl, hlp, x0, x1, k⟩ := h
    refine ⟨_, pss_one (ps_ret (pe_ix ix_list (pv 1) (pe_call GD hr rfl gD FD.kp bD .nil pass0 (pa_cons (pv 0) (pa_cons (pe_callB call_len_seq (by rfl) T.len PySem.boot_len (pa_cons (pv 1) pa_nil)) pa_nil))) (fun _ _ => rfl))), ?_⟩
    refine ⟨_, rfl, _, rfl, _, rfl, _, _, rfl, .inl (SqL.of hl), ?_⟩
    refine ⟨p, _, rfl, R, by omega, by omega, fun d H' d0 d1 kp R' => ?_⟩
    obtain ⟨j, rfl⟩ : ∃ j : Nat, d = (j : Int) := ⟨d.toNat, by omega⟩
    have hj : j < xs.length := by omega
    exact ⟨l, _, _, _, rfl, rfl, SqL.of (kp l _ hl hlp), atI_nat (List.getElem?_eq_getElem hj), k _ _ (List.getElem_mem hj) kp R'⟩
end
end K18
set_option maxHeartbeats 4000000
namespace K18
open PySem PySem.Spec PyProof.Rows L2 GL StX
abbrev psRule : List Str := ["self", "goal", "answer", "when", "moves"]
section
variable {K : PySem.W.Frag} {f : Addr} {fd : FuncData} {e : V}
abbrev RuleD (K : PySem.W.Frag) (e : V) (f : Addr) (fd : FuncData) : Prop := FunD K "__init__" "Rule.__init__" (defArgs (sRule 0)) (defBody (sRule 0)) (defScope (sRule 0)) [] [("when", e), ("moves", .non)] f fd
/-- Rule(g, a, when = w, moves = m) -/
theorem rule_kb2 (F : RuleD K e f fd) : ∃ gU, KBn K fd psRule 3 ["when", "moves"] gU (fun vs zs => vs ++ zs) := by
  obtain ⟨mv, z⟩ := FunD.kbinds0 (ps := psRule) F 3 ["when", "moves"] [] (fun vs _ zs => vs ++ zs) (by simp) (fun q hq => by cases hq) (fun r1 _ r3 => r1.append r3) fun D doc pm an cdv ct us mv ws h1 h2 h3 => by
    match us, mv, ws, h1, h2, h3 with
    | [_, _, _], [], [_, _], _, _, _ => rfl
  exact ⟨_, z⟩
/-- Rule(g, a, when = w) -/
theorem rule_kb1 (F : RuleD K e f fd) : ∃ gU, KBn K fd psRule 3 ["when"] gU (fun vs zs => vs ++ (zs ++ [.non])) := by
  obtain ⟨mv, z⟩ := FunD.kbinds0 (ps := psRule) F 3 ["when"] [("moves", .non)] (fun vs m zs => vs ++ (zs ++ m)) (by simp) (fun q hq => by simp at hq ⊢; exact .inr hq) (fun r1 r2 r3 => r1.append (r3.append r2)) fun D doc pm an cdv ct us mv ws h1 h2 h3 => by
    match us, mv, ws, h1, h2, h3 with
    | [_, _, _], [_], [_], _, _, _ => exact ⟨_, _, _, _, _, _, rfl, rfl, rfl⟩
  exact ⟨_, z⟩
/-- Rule(g, a) -/
theorem rule_kb0 (F : RuleD K e f fd) : ∃ gU, KBn K fd psRule 3 [] gU (fun vs zs => vs ++ ([e, .non] ++ zs)) := by
  obtain ⟨mv, z⟩ := FunD.kbinds0 (ps := psRule) F 3 [] [("when", e), ("moves", .non)] (fun vs m zs => vs ++ (m ++ zs)) (by simp) (fun q hq => hq) (fun r1 r2 r3 => r1.append (r2.append r3)) fun D doc pm an cdv ct us mv ws h1 h2 h3 => by
    match us, mv, ws, h1, h2, h3 with
    | [_, _, _], [_, _], [], _, _, _ => exact ⟨_, _, _, _, _, _, rfl, rfl, ⟨_, _, _, _, _, _, rfl, rfl, rfl⟩⟩
  exact ⟨_, z⟩
end
end K18
set_option maxHeartbeats 4000000
namespace K18
open PySem PySem.Spec PyProof.Rows L2 GL
def cMEq (d : Int) (u lo hi : Rat) (e : Int) (v l2 h2 : Rat) : Bool := decide (d = e) && (decide (u = v) && (decide (lo = l2) && decide (hi = h2)))
theorem cMEq_self (d : Int) (u lo hi : Rat) : cMEq d u lo hi d u lo hi = true := by
  unfold cMEq
  simp
section
variable {P : Program} {w : World} {K : PySem.W.Frag} {mg : Str → Option Value} {base : Heap}
/-! ### Move.__eq__ -/
def spMEq (K : PySem.W.Frag) : Sp := fun vs H Q _ => ∃ (s : Addr) (y : V) (d : Int) (u lo hi : Rat), vs = [.ref s, y] ∧ MovAt K H s d u lo hi ∧
  ((∃ o e v l2 h2, y = .ref o ∧ MovAt K H o e v l2 h2 ∧ Q (.bl (cMEq d u lo hi e v l2 h2)) H) ∨ ∃ t, TyX K H y t ∧ PySem.W.kitOne K t (.ref (aM K)) = some false ∧ Q (.bl false) H)
theorem scMEq : FnScope ["self", "other"] ["self", "other"] (defScope (sMove 26)) := ⟨rfl, rfl, rfl, by decide +kernel, rfl, by decide +kernel, by decide +kernel⟩
theorem ok_mEq {f : Addr} {fd : FuncData} (F : FunD K "__eq__" "Move.__eq__" (defArgs (sMove 26)) (defBody (sMove 26)) (defScope (sMove 26)) [] [] f fd) (M : RM P w K mg base) : FnOk P w K mg base CX0 3 f fd ["self", "other"] (spMEq K) := by
  obtain ⟨fE, oE, GE⟩ := M.L.C.J.I.eq
  have TR := M.L.C.J.I.R.G.T
  have TM := M.T
  refine F.ok scMEq (fun vs H Q E h => ?_) (fun cdv A outer s H vs Q E hr h => ?_)
  · obtain ⟨s, y, d, u, lo, hi, rfl, _⟩ := h
    rfl
  · obtain ⟨s, y, d, u, lo, hi, rfl, ⟨d1, le, dx, pa, pb, pc, es, ha, hb, hc⟩, h⟩ := h
    refine ⟨_, pss_cons (ps_if (pt_not (pt_val (pe_callB call_isi (by rfl) TR.isi (by decide +kernel) (pa_cons (pv 1) (pa_cons (pe_glob (v := .ref (aM K)) rfl TM.gM rfl) pa_nil))))) (pss_one (ps_ret pe_bl)) pss_nil)
      (pss_cons (ps_if (PW.pt (pw_or (pt_cmpR op_ne (pe_fld (pv 0) rfl) (pe_fld (pv 1) rfl) (nomark _)) (pw_or1 (pt_cmpR (op_neO oE GE hr pass0) (pe_fld (pv 0) rfl) (pe_fld (pv 1) rfl) (nomark _))))) (pss_one (ps_ret pe_bl)) pss_nil)
      (pss_one (ps_ret (pe_and (pe_cmpR (op_eqO oE GE (hr.mono (by decide)) pass0) (pe_fld (pv 0) rfl) (pe_fld (pv 1) rfl) (nomark _)) (pe_one (pe_cmpR (op_eqO oE GE (hr.mono (by decide)) pass0) (pe_fld (pv 0) rfl) (pe_fld (pv 1) rfl) (nomark _))))))), ?_⟩
    rcases h with ⟨o, e, v, l2, h2, rfl, ho, k⟩ | ⟨t, ty, kt, k⟩
    · obtain ⟨e1, le2, dy, qa, qb, qc, eo, ha2, hb2, hc2⟩ := id ho
      have nf : PySem.W.notFirst K (aR K) (.ref (aR K)) = true := by unfold PySem.W.notFirst; rw [beq_self_eq_true, Bool.true_or]
      unfold cMEq at k
      refine ⟨_, rfl, .ref o, .ref (aM K), .ref (aM K), _, true, rfl, .own _, ho.ty TM, isi_self, true, rfl, iteF ?_⟩
      refine ⟨_, rfl, s, _, dx, _, _, rfl, es, TM.cl, TM.nD, rfl, _, rfl, o, _, dy, _, _, rfl, eo, TM.cl, TM.nD, rfl, rfl, _, rfl, ?_⟩
      by_cases cd : d = e
      · have z : decide (V.int d = V.int e) = true := decide_eq_true (by rw [cd])
        rw [decide_eq_true cd, Bool.true_and] at k
        dsimp only
        rw [z]
        refine iteF ?_
        obtain ⟨da, ea⟩ := id ha
        refine ⟨_, rfl, s, _, dx, _, _, rfl, es, TM.cl, TM.nP, rfl, _, rfl, o, _, dy, _, _, rfl, eo, TM.cl, TM.nP, rfl, pa, da, _, .ref (aR K), rfl, ea, ha2.ty TR, nf, pa, .ref qa, u, rfl, ha, .inl ⟨qa, v, rfl, ha2, _, rfl, _, rfl, ?_⟩⟩
        cases cu : decide (u = v) with
        | false =>
          rw [cu, Bool.false_and] at k
          exact iteT k
        | true =>
          rw [cu, Bool.true_and] at k
          refine iteF ?_
          obtain ⟨db, eb⟩ := id hb
          refine ⟨_, rfl, s, _, dx, _, _, rfl, es, TM.cl, TM.nL, rfl, _, rfl, o, _, dy, _, _, rfl, eo, TM.cl, TM.nL, rfl, pb, db, _, .ref (aR K), rfl, eb, hb2.ty TR, nf, pb, .ref qb, lo, rfl, hb, .inl ⟨qb, l2, rfl, hb2, _, rfl, ?_⟩⟩
          cases cl : decide (lo = l2) with
          | false =>
            rw [cl, Bool.false_and] at k
            exact iteF k
          | true =>
            rw [cl, Bool.true_and] at k
            obtain ⟨dc, ec⟩ := id hc
            exact iteT ⟨_, rfl, s, _, dx, _, _, rfl, es, TM.cl, TM.nH, rfl, _, rfl, o, _, dy, _, _, rfl, eo, TM.cl, TM.nH, rfl, pc, dc, _, .ref (aR K), rfl, ec, hc2.ty TR, nf, pc, .ref qc, hi, rfl, hc, .inl ⟨qc, h2, rfl, hc2, k⟩⟩
      · have z : decide (V.int d = V.int e) = false := decide_eq_false fun y => cd (by injection y)
        rw [decide_eq_false cd, Bool.false_and] at k
        dsimp only
        rw [z]
        exact iteT k
    · exact ⟨_, rfl, y, .ref (aM K), t, _, false, rfl, .own _, ty, kt, false, rfl, iteT k⟩
/-! ### the parts told -/
theorem scM5 : FnScope ["self"] ["self"] (defScope (sMove 5)) := ⟨rfl, rfl, rfl, by decide +kernel, rfl, by decide +kernel, by decide +kernel⟩
theorem ok_mDiv {f : Addr} {fd : FuncData} (F : FunD K "divisor" "Move.divisor" (defArgs (sMove 5)) (defBody (sMove 5)) (defScope (sMove 5)) [] [] f fd) (T : MF K mg) : FnOk P w K mg base CX0 1 f fd ["self"] (fun vs H Q _ => ∃ (s : Addr) (d : Int) (u lo hi : Rat), vs = [.ref s] ∧ MovAt K H s d u lo hi ∧ Q (.int d) H) := by
  refine F.ok scM5 (fun vs H Q E h => ?_) (fun cdv A outer s H vs Q E hr h => ?_)
  · obtain ⟨s, d, u, lo, hi, rfl, _⟩ := h
    rfl
  · obtain ⟨s, d, u, lo, hi, rfl, ⟨d1, le, dx, pa, pb, pc, es, ha, hb, hc⟩, k⟩ := h
    exact ⟨_, pss_one (ps_ret (pe_fld (pv 0) rfl)), _, rfl, s, _, dx, _, _, rfl, es, T.cl, T.nD, rfl, k⟩
def spMGet (K : PySem.W.Frag) (g : Rat → Rat → Rat → Rat) : Sp := fun vs H Q _ => ∃ (s : Addr) (d : Int) (u lo hi : Rat), vs = [.ref s] ∧ MovAt K H s d u lo hi ∧ ∀ a, RatAt K H a (g u lo hi) → Q (.ref a) H
theorem scM6 : FnScope ["self"] ["self"] (defScope (sMove 6)) := ⟨rfl, rfl, rfl, by decide +kernel, rfl, by decide +kernel, by decide +kernel⟩
theorem ok_mPlus {f : Addr} {fd : FuncData} (F : FunD K "plus" "Move.plus" (defArgs (sMove 6)) (defBody (sMove 6)) (defScope (sMove 6)) [] [] f fd) (T : MF K mg) : FnOk P w K mg base CX0 1 f fd ["self"] (spMGet K fun u _ _ => u) := by
  refine F.ok scM6 (fun vs H Q E h => ?_) (fun cdv A outer s H vs Q E hr h => ?_)
  · obtain ⟨s, d, u, lo, hi, rfl, _⟩ := h
    rfl
  · obtain ⟨s, d, u, lo, hi, rfl, ⟨d1, le, dx, pa, pb, pc, es, ha, hb, hc⟩, k⟩ := h
    exact ⟨_, pss_one (ps_ret (pe_fld (pv 0) rfl)), _, rfl, s, _, dx, _, _, rfl, es, T.cl, T.nP, rfl, k _ ha⟩
theorem scM7 : FnScope ["self"] ["self"] (defScope (sMove 7)) := ⟨rfl, rfl, rfl, by decide +kernel, rfl, by decide +kernel, by decide +kernel⟩
theorem ok_mLow {f : Addr} {fd : FuncData} (F : FunD K "low" "Move.low" (defArgs (sMove 7)) (defBody (sMove 7)) (defScope (sMove 7)) [] [] f fd) (T : MF K mg) : FnOk P w K mg base CX0 1 f fd ["self"] (spMGet K fun _ l _ => l) := by
  refine F.ok scM7 (fun vs H Q E h => ?_) (fun cdv A outer s H vs Q E hr h => ?_)
  · obtain ⟨s, d, u, lo, hi, rfl, _⟩ := h
    rfl
  · obtain ⟨s, d, u, lo, hi, rfl, ⟨d1, le, dx, pa, pb, pc, es, ha, hb, hc⟩, k⟩ := h
    exact ⟨_, pss_one (ps_ret (pe_fld (pv 0) rfl)), _, rfl, s, _, dx, _, _, rfl, es, T.cl, T.nL, rfl, k _ hb⟩
theorem scM8 : FnScope ["self"] ["self"] (defScope (sMove 8)) := ⟨rfl, rfl, rfl, by decide +kernel, rfl, by decide +kernel, by decide +kernel⟩
theorem ok_mHigh {f : Addr} {fd : FuncData} (F : FunD K "high" "Move.high" (defArgs (sMove 8)) (defBody (sMove 8)) (defScope (sMove 8)) [] [] f fd) (T : MF K mg) : FnOk P w K mg base CX0 1 f fd ["self"] (spMGet K fun _ _ h => h) := by
  refine F.ok scM8 (fun vs H Q E h => ?_) (fun cdv A outer s H vs Q E hr h => ?_)
  · obtain ⟨s, d, u, lo, hi, rfl, _⟩ := h
    rfl
  · obtain ⟨s, d, u, lo, hi, rfl, ⟨d1, le, dx, pa, pb, pc, es, ha, hb, hc⟩, k⟩ := h
    exact ⟨_, pss_one (ps_ret (pe_fld (pv 0) rfl)), _, rfl, s, _, dx, _, _, rfl, es, T.cl, T.nH, rfl, k _ hc⟩
theorem scR4 : FnScope ["self"] ["self"] (defScope (sRatio 4)) := ⟨rfl, rfl, rfl, by decide +kernel, rfl, by decide +kernel, by decide +kernel⟩
theorem ok_top {f : Addr} {fd : FuncData} (F : FunD K "top" "Ratio.top" (defArgs (sRatio 4)) (defBody (sRatio 4)) (defScope (sRatio 4)) [] [] f fd) (T : RF K mg) : FnOk P w K mg base CX0 1 f fd ["self"] (fun vs H Q _ => ∃ (a : Addr) (q : Rat), vs = [.ref a] ∧ RatAt K H a q ∧ Q (.int q.num) H) := by
  refine F.ok scR4 (fun vs H Q E h => ?_) (fun cdv A outer s H vs Q E hr h => ?_)
  · obtain ⟨a, q, rfl, _⟩ := h
    rfl
  · obtain ⟨a, q, rfl, ⟨d, e⟩, k⟩ := h
    exact ⟨_, pss_one (ps_ret (pe_fld (pv 0) rfl)), _, rfl, a, _, d, _, _, rfl, e, T.cl, T.nT, rfl, k⟩
theorem scR5 : FnScope ["self"] ["self"] (defScope (sRatio 5)) := ⟨rfl, rfl, rfl, by decide +kernel, rfl, by decide +kernel, by decide +kernel⟩
theorem ok_bottom {f : Addr} {fd : FuncData} (F : FunD K "bottom" "Ratio.bottom" (defArgs (sRatio 5)) (defBody (sRatio 5)) (defScope (sRatio 5)) [] [] f fd) (T : RF K mg) : FnOk P w K mg base CX0 1 f fd ["self"] (fun vs H Q _ => ∃ (a : Addr) (q : Rat), vs = [.ref a] ∧ RatAt K H a q ∧ Q (.int (q.den : Int)) H) := by
  refine F.ok scR5 (fun vs H Q E h => ?_) (fun cdv A outer s H vs Q E hr h => ?_)
  · obtain ⟨a, q, rfl, _⟩ := h
    rfl
  · obtain ⟨a, q, rfl, ⟨d, e⟩, k⟩ := h
    exact ⟨_, pss_one (ps_ret (pe_fld (pv 0) rfl)), _, rfl, a, _, d, _, _, rfl, e, T.cl, T.nB, rfl, k⟩
end
end K18
set_option maxHeartbeats 4000000
/-! == and != of dicts whose values are own instances: which answer is given. -/
namespace GL
open PySem PySem.Spec PyProof.Rows L2
/-- the entries of one dict, looked up in another one -/
inductive HitsB (D : DB) (G : Hp) (ls : List (Key × V)) : List (Key × V) → Bool → Prop
  | nil : HitsB D G ls [] true
  | miss {k : Key} {v : V} {r : List (Key × V)} (h : valV ls k = none) : HitsB D G ls ((k, v) :: r) false
  | no {k : Key} {v y : V} {r : List (Key × V)} (h : valV ls k = some y) (d : D v y false G) : HitsB D G ls ((k, v) :: r) false
  | yes {k : Key} {v y : V} {r : List (Key × V)} {b : Bool} (h : valV ls k = some y) (d : D v y true G) (t : HitsB D G ls r b) : HitsB D G ls ((k, v) :: r) b
theorem HitsB.same {D : DB} (hD : MonB D) {G G' : Hp} (k : Same G G') {ls : List (Key × V)} : ∀ {ks : List (Key × V)} {b : Bool}, HitsB D G ls ks b → HitsB D G' ls ks b
  | _, _, .nil => .nil
  | _, _, .miss h => .miss h
  | _, _, .no h d => .no h (hD _ _ _ _ _ k d)
  | _, _, .yes h d t => .yes h (hD _ _ _ _ _ k d) (t.same hD k)
theorem HitsB.inv {D : DB} {G : Hp} {ls r : List (Key × V)} {k : Key} {v : V} {b : Bool} (h : HitsB D G ls ((k, v) :: r) b) :
    (valV ls k = none ∧ b = false) ∨ ∃ y, valV ls k = some y ∧ ((D v y false G ∧ b = false) ∨ (D v y true G ∧ HitsB D G ls r b)) := by
  cases h with
  | miss h => exact .inl ⟨h, rfl⟩
  | no h d => exact .inr ⟨_, h, .inl ⟨d, rfl⟩⟩
  | yes h d t => exact .inr ⟨_, h, .inr ⟨d, t⟩⟩
section
variable {X : Cx} {n : Nat} {D : DB} {pins : List (Addr × Obj)} {σ : L2.St} {A : Around}
/-- the two dicts, fixed while their entries are asked -/
theorem pairs_same (hD : MonB D) (h : EqB X n D) (sb : Sub X n A) {nm : String} {a c : Addr} {oa oc : Obj} {ks ls : List (Key × V)} {b : Bool} {G H : Hp} {s : Shared} {Q : Bool → Shared → Prop} (I : Inv X pins σ H s) (ha : H a = some (.frz oa (.dK ks))) (hc : H c = some (.frz oc (.dK ls))) (kG : Same G H)
    (dif : ks.length ≠ ls.length → b = false) (hits : ks.length = ls.length → HitsB D G ls ks b) (q : ∀ H' s', Inv X pins σ H' s' → Same H H' → Q b s') : wpAny (model X.prog X.w) A (Builtin.Dict.samePairs nm a c) Q X.xe s := by
  obtain ⟨na, ga, _, ea, pa, va, da, la, ra, dA⟩ := I.frzK ha
  obtain ⟨nc, gc, _, ec, pc, vc, dc, lc, rc, dC⟩ := I.frzK hc
  obtain ⟨oa', es, gA, _, dAt, kA, pA, _⟩ := dA
  rw [ga] at gA
  cases gA
  rw [da] at dAt
  cases dAt
  obtain ⟨oc', es', gC, _, dCt, kC, pC, _⟩ := dC
  rw [gc] at gC
  cases gC
  rw [dc] at dCt
  cases dCt
  unfold Builtin.Dict.samePairs Builtin.Dict.showsAll
  rw [if_neg (by rw [na]; exact Bool.false_ne_true), if_neg (by rw [nc]; exact Bool.false_ne_true)]
  refine wpAny_bind (wpAny_pure (wpAny_bind (wpAny_pure (wpAny_bind (wpAny_dictEntries ga da ?_)))))
  dsimp only
  refine wpAny_bind (wpAny_dictEntries gc dc ?_)
  by_cases sz : ea.size = ec.size
  case neg =>
    rw [if_pos (by simpa using sz)]
    have eb := dif (by rw [← la, ← lc]; exact sz)
    rw [eb] at q
    exact wpAny_bind (wpAny_rule (wpAny_pure (q H s I fun _ _ e => e)))
  case pos =>
    have ht := hits (by rw [← la, ← lc]; exact sz)
    rw [if_neg (by rw [sz]; simp)]
    refine wpAny_bind (wpAny_dictEpoch ga da (wpAny_bind ?_))
    rw [Std.Legacy.Range.forIn_eq_forIn_range']
    simp only [Std.Legacy.Range.size, Nat.sub_zero, Nat.add_sub_cancel, Nat.div_one]
    refine wpAny_forIn_list _ (fun rest z s1 => z = (none, ()) ∧ ∃ i H1, rest = List.range' i (ea.size - i) ∧ i ≤ ea.size ∧ Inv X pins σ H1 s1 ∧ Same H H1 ∧ HitsB D G ls (ks.drop i) b) _ ?_ ?_ _ _ ⟨rfl, 0, H, by simp, Nat.zero_le _, I, fun _ _ e => e, ht⟩
    · rintro x rest z s1 ⟨rfl, i, H1, er, hi, I1, k1, t1⟩
      have lt : i < ea.size := by
        rcases Nat.lt_or_ge i ea.size with l | l
        · exact l
        · rw [Nat.sub_eq_zero_of_le l] at er
          cases er
      obtain ⟨rfl, erest⟩ : x = i ∧ rest = List.range' (i + 1) (ea.size - (i + 1)) := by
        have e : ea.size - i = (ea.size - (i + 1)) + 1 := by omega
        rw [e, List.range'_succ] at er
        injection er with e1 e2
        exact ⟨e1, e2⟩
      have g1 := (I1.frzK (k1 _ _ ha)).2.1
      have g2 := (I1.frzK (k1 _ _ hc)).2.1
      refine wpAny_bind (wpAny_dictEntries g1 da ?_)
      rw [Array.getElem?_eq_getElem lt]
      have ltk : x < ks.length := by rw [← la]; exact lt
      obtain ⟨k, v, ek⟩ : ∃ k v, ks[x] = (k, v) := ⟨_, _, rfl⟩
      have drop : ks.drop x = (k, v) :: ks.drop (x + 1) := by rw [← ek]; exact List.drop_eq_getElem_cons ltk
      rw [drop] at t1
      obtain ⟨u, eu, rv⟩ : ∃ u, va[x]? = some (k, u) ∧ L2.RelV v u := by
        have z : ∀ {ps : List (Key × V)} {us : List (Key × Value)} {j : Nat}, KV ps us → ps[j]? = some (k, v) → ∃ u, us[j]? = some (k, u) ∧ L2.RelV v u := by
          intro ps us j r
          unfold KV at r
          induction r generalizing j with
          | nil => intro e; simp at e
          | @cons p w ps ws hp _ ih =>
            intro e
            cases j with
            | zero =>
              simp only [List.getElem?_cons_zero, Option.some.injEq] at e
              subst e
              obtain ⟨wk, wv⟩ := w
              obtain ⟨h1, h2⟩ := hp
              replace h1 : k = wk := h1
              subst h1
              exact ⟨wv, rfl, h2⟩
            | succ j =>
              simp only [List.getElem?_cons_succ] at e ⊢
              exact ih e
        exact z ra (by rw [List.getElem?_eq_getElem ltk, ek])
      obtain ⟨isk, ev⟩ := pA.get? (i := x) (e := ea[x]) (by rw [Array.getElem?_toList]; exact Array.getElem?_eq_getElem lt) eu
      obtain ⟨k', isk', hh⟩ := kA ea[x] (Array.getElem_mem lt)
      rw [(mixKind X.prog X.w).inj _ _ _ isk' isk] at hh
      show wpAny _ _ (holding [ea[x].key, ea[x].val] _ >>= _) _ _ _
      rw [hh]
      refine wpAny_bind (wpAny_holding (wpAny_bind (wpAny_dictFind_of isk g2 dc kC ?_)))
      have look : findBy (mixKind X.prog X.w).is ec k = valueAt vc k := by
        rw [← pC.find k]
        obtain ⟨l⟩ := ec
        simp [findBy]
      have rval := rc.val k
      cases hj : ec.findIdx? fun e => (mixKind X.prog X.w).is k e.key with
      | none =>
        rw [findBy_of_findIdx?, hj] at look
        replace look : valueAt vc k = none := look.symm
        rw [look] at rval
        rcases t1.inv with ⟨_, eb⟩ | ⟨y, hy, _⟩
        · subst eb
          refine wpAny_pure ?_
          show wpAny _ _ (if (!false) = true then _ else _) _ _ _
          rw [if_pos (show (!false) = true from rfl)]
          exact wpAny_pure (wpAny_pure (q H1 _ I1 k1))
        · rw [hy] at rval
          exact rval.elim
      | some j =>
        obtain ⟨jl, _, _⟩ := Array.findIdx?_eq_some_iff_getElem.mp hj
        rw [findBy_of_findIdx?, hj] at look
        replace look : valueAt vc k = some ec[j].val := by
          rw [← look]
          simp [Array.getElem?_eq_getElem jl]
        rw [look] at rval
        refine wpAny_bind (wpAny_dictEntries g2 dc ?_)
        rw [Array.getElem?_eq_getElem jl]
        rcases t1.inv with ⟨hy, _⟩ | ⟨y, hy, t2⟩
        · rw [hy] at rval
          exact rval.elim
        · rw [hy] at rval
          rw [← ev] at rv
          have fin : ∀ {e : Bool}, D v y e G → (e = true → HitsB D G ls (ks.drop (x + 1)) b) → (e = false → b = false) → wpAny (model X.prog X.w) A (eqBool ea[x].val ec[j].val) (fun r s2 => r = e ∧ ∃ H2, Inv X pins σ H2 s2 ∧ Same H H2) X.xe s1 := fun {e} d _ _ =>
            wpAny_mono (h A pins s1 σ H1 v y _ _ e sb I1 rv rval (hD _ _ _ _ _ (kG.trans k1) d)) (fun r s2 ⟨e1, H2, I2, k2⟩ => ⟨e1, H2, I2, k1.trans k2⟩) fun _ _ z => z
          obtain ⟨e, d, t3, t4⟩ : ∃ e, D v y e G ∧ (e = true → HitsB D G ls (ks.drop (x + 1)) b) ∧ (e = false → b = false) := by
            rcases t2 with ⟨d, eb⟩ | ⟨d, t⟩
            · exact ⟨false, d, (fun z => by cases z), fun _ => eb⟩
            · exact ⟨true, d, (fun _ => t), fun z => by cases z⟩
          refine wpAny_holding (wpAny_mono (fin d t3 t4) (fun r s2 z => ?_) fun _ _ z => z)
          obtain ⟨rfl, H2, I2, k2⟩ := z
          cases r with
          | false =>
            rw [t4 rfl] at q
            show wpAny _ _ (if (!false) = true then _ else _) _ _ _
            rw [if_pos (show (!false) = true from rfl)]
            have eb := t4 rfl
            subst eb
            exact wpAny_pure (wpAny_pure (q H2 _ I2 k2))
          | true =>
            show wpAny _ _ (if (!true) = true then _ else _) _ _ _
            rw [if_neg (fun z => by cases z)]
            refine wpAny_bind (wpAny_dictEpoch (I2.frzK (k2 _ _ ha)).2.1 da ?_)
            rw [if_neg (by simp)]
            exact wpAny_pure ⟨rfl, x + 1, H2, erest, lt, I2, k2, t3 rfl⟩
    · rintro z s1 ⟨rfl, i, H1, er, hi, I1, k1, t1⟩
      have ei : i = ea.size := by
        rcases Nat.lt_or_ge i ea.size with l | l
        · have e : ea.size - i = (ea.size - (i + 1)) + 1 := by omega
          rw [e, List.range'_succ] at er
          cases er
        · exact Nat.le_antisymm hi l
      rw [ei, la, List.drop_length] at t1
      cases t1
      exact wpAny_pure (q H1 _ I1 k1)
/-- two dicts -/
def DictB (D : DB) : DB := fun x y b H => ∃ a c ks ls, x = .ref a ∧ y = .ref c ∧ H a = some (.dK ks) ∧ H c = some (.dK ls) ∧ (ks.length ≠ ls.length → b = false) ∧ (ks.length = ls.length → HitsB D (off (off H a) c) ls ks b)
theorem off2_same {H H' : Hp} {a c : Addr} (k : Same H H') : Same (off (off H a) c) (off (off H' a) c) := fun b o e => by
  obtain ⟨n1, e⟩ := off_some e
  obtain ⟨n2, e⟩ := off_some e
  rw [off_ne n1, off_ne n2]
  exact k _ _ e
theorem monB_dict (hD : MonB D) : MonB (DictB D) := by
  intro x y b H H' k d
  obtain ⟨a, c, ks, ls, e1, e2, ha, hc, dif, hits⟩ := d
  exact ⟨a, c, ks, ls, e1, e2, k _ _ ha, k _ _ hc, dif, fun l => (hits l).same hD (off2_same k)⟩
theorem dict_pairs (hD : MonB D) (h : EqB X n D) (sb : Sub X n A) {nm : String} {a c : Addr} {ks ls : List (Key × V)} {b : Bool} {H : Hp} {s : Shared} {Q : Bool → Shared → Prop} (I : Inv X pins σ H s) (ha : H a = some (.dK ks)) (hc : H c = some (.dK ls))
    (dif : ks.length ≠ ls.length → b = false) (hits : ks.length = ls.length → HitsB D (off (off H a) c) ls ks b) (q : ∀ H' s', Inv X pins σ H' s' → Same H H' → Q b s') : wpAny (model X.prog X.w) A (Builtin.Dict.samePairs nm a c) Q X.xe s := by
  obtain ⟨oa, Ia⟩ := I.lock ha (by exact True.intro)
  have na := I.nofrz ha (by exact True.intro)
  by_cases ne : a = c
  · subst ne
    rw [ha] at hc
    cases hc
    have la : upd H a (.frz oa (.dK ks)) a = some (.frz oa (.dK ks)) := upd_same
    refine pairs_same hD h sb Ia la la (fun x o e => ?_) dif hits fun H2 s2 I2 k2 => ?_
    · obtain ⟨n1, e⟩ := off_some e
      obtain ⟨n2, e⟩ := off_some e
      rw [upd_ne n1]
      exact e
    · refine q _ s2 (I2.unlock (k2 _ _ la) na) fun x o e => ?_
      by_cases xa : x = a
      · subst xa
        rw [upd_same, ← e, ha]
      · rw [upd_ne xa]
        exact k2 _ _ ((upd_ne xa).trans e)
  have ne' : c ≠ a := fun z => ne z.symm
  have hc1 : upd H a (.frz oa (.dK ks)) c = some (.dK ls) := (upd_ne ne').trans hc
  obtain ⟨oc, Ic⟩ := Ia.lock hc1 (by exact True.intro)
  have nc := Ia.nofrz hc1 (by exact True.intro)
  have la : upd (upd H a (.frz oa (.dK ks))) c (.frz oc (.dK ls)) a = some (.frz oa (.dK ks)) := (upd_ne ne).trans upd_same
  have lc : upd (upd H a (.frz oa (.dK ks))) c (.frz oc (.dK ls)) c = some (.frz oc (.dK ls)) := upd_same
  have kG : Same (off (off H a) c) (upd (upd H a (.frz oa (.dK ks))) c (.frz oc (.dK ls))) := fun x o e => by
    obtain ⟨n1, e⟩ := off_some e
    obtain ⟨n2, e⟩ := off_some e
    rw [upd_ne n1, upd_ne n2]
    exact e
  refine pairs_same hD h sb Ic la lc kG dif hits fun H2 s2 I2 k2 => ?_
  have I3 := I2.unlock (k2 _ _ lc) nc
  have I4 := I3.unlock ((upd_ne ne).trans (k2 _ _ la)) na
  refine q _ s2 I4 fun x o e => ?_
  by_cases xa : x = a
  · subst xa
    rw [upd_same, ← e, ha]
  · rw [upd_ne xa]
    by_cases xc : x = c
    · subst xc
      rw [upd_same, ← e, hc]
    · rw [upd_ne xc]
      exact k2 _ _ ((upd_ne xc).trans ((upd_ne xa).trans e))
theorem rcB_dict (hD : MonB D) (h : EqB X n D) : RcB X (n + 1) .Eq id (DictB D) := by
  intro A pins s σ H x y u v b sb I rx ry d
  obtain ⟨a, c, ks, ls, rfl, rfl, ha, hc, dif, hits⟩ := d
  cases (show u = Value.ref a from rx)
  cases (show v = Value.ref c from ry)
  obtain ⟨_, _, va, ra, da⟩ := dk_of I.hok ha
  obtain ⟨_, _, vc, rc, dc⟩ := dk_of I.hok hc
  refine wpAny_richCompare_same_room (op := .Eq) da.typeIs dc.typeIs F.slot_dict_eq (GQ.call_here F.slot_dict_eq da.typeIs F.entry_dict_eq (F.args_dict_eq_2 _ _) ?_) sb.room.units0
  refine wpAny_bind ?_
  unfold Builtin.Dict.dictSlotArgs
  refine wpAny_bind (wpAny_notOrdered_dict da.typeIs (wpAny_pure (wpAny_bind (wpAny_isInstance (T := "dict") dc.typeIs F.sub_dict_dict ?_))))
  rw [if_neg (by decide)]
  refine wpAny_bind (wpAny_pure (wpAny_bind (wpAny_pure (wpAny_bind (dict_pairs hD h sb.in1 I ha hc dif hits fun H2 s2 I2 k2 => ?_)))))
  exact wpAny_pure ⟨(fun z => by cases z), by cases b <;> rfl, H2, I2, k2⟩
theorem rcN_dict (hD : MonB D) (h : EqB X n D) : RcB X (n + 1) .NotEq not (DictB D) := by
  intro A pins s σ H x y u v b sb I rx ry d
  obtain ⟨a, c, ks, ls, rfl, rfl, ha, hc, dif, hits⟩ := d
  cases (show u = Value.ref a from rx)
  cases (show v = Value.ref c from ry)
  obtain ⟨_, _, va, ra, da⟩ := dk_of I.hok ha
  obtain ⟨_, _, vc, rc, dc⟩ := dk_of I.hok hc
  refine wpAny_richCompare_same_room (op := .NotEq) da.typeIs dc.typeIs F.slot_dict_ne (GQ.call_here F.slot_dict_ne da.typeIs F.entry_dict_ne (F.args_dict_ne_2 _ _) ?_) sb.room.units0
  refine wpAny_bind ?_
  unfold Builtin.Dict.dictSlotArgs
  refine wpAny_bind (wpAny_notOrdered_dict da.typeIs (wpAny_pure (wpAny_bind (wpAny_isInstance (T := "dict") dc.typeIs F.sub_dict_dict ?_))))
  rw [if_neg (by decide)]
  refine wpAny_bind (wpAny_pure (wpAny_bind (wpAny_pure (wpAny_bind (dict_pairs hD h sb.in1 I ha hc dif hits fun H2 s2 I2 k2 => ?_)))))
  exact wpAny_pure ⟨(fun z => by cases z), by cases b <;> rfl, H2, I2, k2⟩
theorem op_eqDc (hD : MonB D) (h : EqB X n D) (hr : Room (n + 1) X.A) : OpR X (compareOp .Eq) (rCmpB id (DictB D)) := op_rc (fun _ _ => rfl) (rcB_dict hD h) hr
theorem op_neDc (hD : MonB D) (h : EqB X n D) (hr : Room (n + 1) X.A) : OpR X (compareOp .NotEq) (rCmpB not (DictB D)) := op_rc (fun _ _ => rfl) (rcN_dict hD h) hr
end
end GL
set_option maxHeartbeats 4000000
namespace K18
open PySem PySem.Spec PyProof.Rows L2 GL
/-- a move's parts: divisor, plus, low, high -/
abbrev Mvd : Type := Int × Rat × Rat × Rat
def MovD (K : PySem.W.Frag) (H : Hp) (p : Addr) (m : Mvd) : Prop := MovAt K H p m.1 m.2.1 m.2.2.1 m.2.2.2
section
variable {K : PySem.W.Frag} {H H' : Hp} {p : Addr} {m n : Mvd}
theorem MovD.same (h : MovD K H p m) (k : Same H H') : MovD K H' p m := MovAt.same h k
theorem movD_inj (h : MovD K H p m) (k : MovD K H p n) : m = n := by
  obtain ⟨_, _, dx, a, b, c, e, ha, hb, hc⟩ := h
  obtain ⟨_, _, dy, a', b', c', e', ha', hb', hc'⟩ := k
  rw [e] at e'
  have z := ins_fs e'
  injection z with z1 z
  injection z with z2 z
  injection z with z3 z
  injection z with z4 _
  injection z1 with _ z1
  injection z1 with z1
  injection z2 with _ z2
  injection z2 with z2
  injection z3 with _ z3
  injection z3 with z3
  injection z4 with _ z4
  injection z4 with z4
  subst z2 z3 z4
  obtain ⟨m1, m2, m3, m4⟩ := m
  obtain ⟨n1, n2, n3, n4⟩ := n
  simp only [Prod.mk.injEq]
  exact ⟨z1, ratAt_inj ha ha', ratAt_inj hb hb', ratAt_inj hc hc'⟩
theorem MovD.keep {H' : Hp} (h : MovD K H p m) (k : ∀ b C dx fs, H b = some (.ins C dx fs) → H' b = some (.ins C dx fs)) : MovD K H' p m := by
  obtain ⟨d1, le, dx, a, b, c, e, ⟨d2, e2⟩, ⟨d3, e3⟩, ⟨d4, e4⟩⟩ := h
  exact ⟨d1, le, dx, a, b, c, k _ _ _ _ e, ⟨d2, k _ _ _ _ e2⟩, ⟨d3, k _ _ _ _ e3⟩, ⟨d4, k _ _ _ _ e4⟩⟩
end
/-- two Moves by Move.__eq__ -/
def MovB (K : PySem.W.Frag) : DB := fun x y b H => ∃ p q m n, x = .ref p ∧ y = .ref q ∧ MovD K H p m ∧ MovD K H q n ∧ b = decide (m = n)
theorem monB_mov {K : PySem.W.Frag} : MonB (MovB K) := by
  intro x y b H H' k d
  obtain ⟨p, q, m, n, e1, e2, hp, hq, e⟩ := d
  exact ⟨p, q, m, n, e1, e2, hp.same k, hq.same k, e⟩
theorem eqB_mov {X : Cx} {f : Addr} (B : GL.OwnEq X.K (aM X.K) f) (F : FnR X.prog X.w X.K X.mg X.base CX0 3 f (spMEq X.K)) : EqB X 3 (MovB X.K) := by
  have z := eqB_ins (E := fun _ _ _ => False) B F (X := X) (pass0 (X := X))
  intro A pins s σ H x y u v b sb I rx ry d
  refine z A pins s σ H x y u v b sb I rx ry ?_
  obtain ⟨p, q, m, n, rfl, rfl, hp, hq, rfl⟩ := d
  obtain ⟨_, _, dp, _, _, _, ep, _⟩ := id hp
  obtain ⟨_, _, dq, _, _, _, eq, _⟩ := id hq
  refine ⟨p, q, dp, dq, _, _, rfl, rfl, ep, eq, ?_, p, .ref q, m.1, m.2.1, m.2.2.1, m.2.2.2, rfl, hp, .inl ⟨q, n.1, n.2.1, n.2.2.1, n.2.2.2, rfl, hq, ?_, fun _ _ e => e⟩⟩
  · rintro rfl
    exact decide_eq_true (movD_inj hp hq)
  · unfold cMEq
    obtain ⟨m1, m2, m3, m4⟩ := m
    obtain ⟨n1, n2, n3, n4⟩ := n
    simp [Prod.mk.injEq]
/-! ### moves by levels -/
def MvsAt (K : PySem.W.Frag) (H : Hp) : List (Key × V) → List (Str × Mvd) → Prop
  | [], [] => True
  | (k, v) :: r, (n, m) :: t => k = Sum.inr n ∧ (∃ p, v = .ref p ∧ MovD K H p m) ∧ MvsAt K H r t
  | _, _ => False
theorem MvsAt.keep {K : PySem.W.Frag} {H H' : Hp} (k : ∀ p m, MovD K H p m → MovD K H' p m) : ∀ {kvs : List (Key × V)} {ms : List (Str × Mvd)}, MvsAt K H kvs ms → MvsAt K H' kvs ms
  | [], [], _ => trivial
  | (_, _) :: _, (_, _) :: _, ⟨e, ⟨p, ev, h⟩, t⟩ => ⟨e, ⟨p, ev, k _ _ h⟩, t.keep k⟩
  | [], _ :: _, h => h.elim
  | _ :: _, [], h => h.elim
theorem MvsAt.same {K : PySem.W.Frag} {H H' : Hp} (k : Same H H') {kvs : List (Key × V)} {ms : List (Str × Mvd)} (h : MvsAt K H kvs ms) : MvsAt K H' kvs ms := h.keep fun p m h => h.same k
theorem MvsAt.len {K : PySem.W.Frag} {H : Hp} : ∀ {kvs : List (Key × V)} {ms : List (Str × Mvd)}, MvsAt K H kvs ms → kvs.length = ms.length
  | [], [], _ => rfl
  | (_, _) :: _, (_, _) :: _, ⟨_, _, t⟩ => by rw [List.length_cons, List.length_cons, t.len]
  | [], _ :: _, h => h.elim
  | _ :: _, [], h => h.elim
theorem MvsAt.keys {K : PySem.W.Frag} {H : Hp} : ∀ {kvs : List (Key × V)} {ms : List (Str × Mvd)}, MvsAt K H kvs ms → kvs.map (·.1) = (ms.map (·.1)).map Sum.inr
  | [], [], _ => rfl
  | (_, _) :: _, (_, _) :: _, ⟨e, _, t⟩ => by simp only [List.map_cons, t.keys, e]
  | [], _ :: _, h => h.elim
  | _ :: _, [], h => h.elim
/-- what is looked up -/
theorem MvsAt.look {K : PySem.W.Frag} {H : Hp} {u : Str} : ∀ {kvs : List (Key × V)} {ms : List (Str × Mvd)}, MvsAt K H kvs ms → (ms.lookup u = none ∧ valV kvs (Sum.inr u) = none) ∨ ∃ p m, ms.lookup u = some m ∧ valV kvs (Sum.inr u) = some (.ref p) ∧ MovD K H p m
  | [], [], _ => .inl ⟨rfl, rfl⟩
  | (k, v) :: r, (n, m) :: t, ⟨e, ⟨p, ev, h⟩, tl⟩ => by
    subst e
    subst ev
    by_cases c : u = n
    · subst c
      exact .inr ⟨p, m, by simp [List.lookup], by simp [valV], h⟩
    · have c2 : ¬ n = u := fun z => c z.symm
      have z := tl.look (u := u)
      have e1 : ((n, m) :: t).lookup u = t.lookup u := by
        have b : (u == n) = false := beq_eq_false_iff_ne.mpr c
        simp [List.lookup, b]
      have e2 : valV ((Sum.inr n, V.ref p) :: r) (Sum.inr u) = valV r (Sum.inr u) := by simp [valV, c2]
      rw [e1, e2]
      exact z
  | [], _ :: _, h => h.elim
  | _ :: _, [], h => h.elim
/-- equal moves, whatever their order -/
def mvEq (ms ns : List (Str × Mvd)) : Bool := decide (ms.length = ns.length) && ms.all fun p => decide (ns.lookup p.1 = some p.2)
theorem mvs_hits {K : PySem.W.Frag} {G : Hp} {ls : List (Key × V)} {ns : List (Str × Mvd)} (h2 : MvsAt K G ls ns) : ∀ {ks : List (Key × V)} {ms : List (Str × Mvd)}, MvsAt K G ks ms → HitsB (MovB K) G ls ks (ms.all fun p => decide (ns.lookup p.1 = some p.2))
  | [], [], _ => .nil
  | (k, v) :: r, (n, m) :: t, ⟨e, ⟨p, ev, h⟩, tl⟩ => by
    subst e
    subst ev
    have rest := mvs_hits h2 tl
    rw [List.all_cons]
    rcases h2.look (u := n) with ⟨e1, e2⟩ | ⟨q, m', e1, e2, hq⟩
    · have z : decide (ns.lookup n = some m) = false := decide_eq_false (by rw [e1]; exact fun z => by cases z)
      show HitsB _ _ _ _ (decide (ns.lookup n = some m) && _)
      rw [z, Bool.false_and]
      exact .miss e2
    · show HitsB _ _ _ _ (decide (ns.lookup n = some m) && _)
      by_cases c : m = m'
      · subst c
        rw [decide_eq_true e1, Bool.true_and]
        exact .yes e2 ⟨p, q, m, m, rfl, rfl, h, hq, (decide_eq_true rfl).symm⟩ rest
      · have z : decide (ns.lookup n = some m) = false := decide_eq_false (by rw [e1]; exact fun z => c (Option.some.inj z).symm)
        rw [z, Bool.false_and]
        exact .no e2 ⟨p, q, m, m', rfl, rfl, h, hq, (decide_eq_false c).symm⟩
  | [], _ :: _, h => h.elim
  | _ :: _, [], h => h.elim
theorem MovD.off2 {K : PySem.W.Frag} {H : Hp} {a c p : Addr} {ks ls : List (Key × V)} {m : Mvd} (ha : H a = some (.dK ks)) (hc : H c = some (.dK ls)) (h : MovD K H p m) : MovD K (off (off H a) c) p m := h.keep fun b C dx fs e => by
  rw [off_ne (fun z => by rw [z, hc] at e; cases e), off_ne (fun z => by rw [z, ha] at e; cases e)]
  exact e
theorem mvs_dict {K : PySem.W.Frag} {H : Hp} {a c : Addr} {ks ls : List (Key × V)} {ms ns : List (Str × Mvd)} (ha : H a = some (.dK ks)) (hc : H c = some (.dK ls)) (h1 : MvsAt K H ks ms) (h2 : MvsAt K H ls ns) : DictB (MovB K) (.ref a) (.ref c) (mvEq ms ns) H := by
  refine ⟨a, c, ks, ls, rfl, rfl, ha, hc, fun l => ?_, fun l => ?_⟩
  · unfold mvEq
    rw [← h1.len, ← h2.len, decide_eq_false l, Bool.false_and]
  · unfold mvEq
    rw [← h1.len, ← h2.len, decide_eq_true l, Bool.true_and]
    exact mvs_hits (h2.keep fun p m h => h.off2 ha hc) (h1.keep fun p m h => h.off2 ha hc)
end K18
set_option maxHeartbeats 4000000
namespace K18
open PySem PySem.Spec PyProof.Rows L2 GL
abbrev sCondCut : Stmt := tp 39
abbrev sWants : Stmt := tp 40
abbrev aUL (K : PySem.W.Frag) : Addr := He.ga K "UnknownLevel"
/-- a rule: its goal, its answer, its conditions, its moves -/
def RuleM (K : PySem.W.Frag) (H : Hp) (s : Addr) (g a : Str) (rows : List (Str × Str × Rat)) (ms : List (Str × Mvd)) : Prop := ∃ kvs, RuleAt K H s g a rows kvs ∧ MvsAt K H kvs ms
theorem RuleM.same {K : PySem.W.Frag} {H H' : Hp} {s : Addr} {g a : Str} {rows : List (Str × Str × Rat)} {ms : List (Str × Mvd)} (h : RuleM K H s g a rows ms) (k : Same H H') : RuleM K H' s g a rows ms := by
  obtain ⟨kvs, h, m⟩ := h
  exact ⟨kvs, h.same k, m.same k⟩
def ruleEq (g a : Str) (rows : List (Str × Str × Rat)) (ms : List (Str × Mvd)) (g' a' : Str) (rows' : List (Str × Str × Rat)) (ms' : List (Str × Mvd)) : Bool := decide (g = g') && (decide (a = a') && (decide (rows = rows') && mvEq ms ms'))
section
variable {P : Program} {w : World} {K : PySem.W.Frag} {mg : Str → Option Value} {base : Heap}
def spRuleEqM (K : PySem.W.Frag) : Sp := fun vs H Q _ => ∃ (s : Addr) (x : V) (g a : Str) (rows : List (Str × Str × Rat)) (ms : List (Str × Mvd)), vs = [.ref s, x] ∧ RuleM K H s g a rows ms ∧
  ((NotA K (aRu K) H x ∧ Q (.bl false) H) ∨
   ∃ (o : Addr) (g' a' : Str) (rows' : List (Str × Str × Rat)) (ms' : List (Str × Mvd)), x = .ref o ∧ RuleM K H o g' a' rows' ms' ∧ ∀ H', Same H H' → Q (.bl (ruleEq g a rows ms g' a' rows' ms')) H')
theorem ok_ruleEqM {f : Addr} {fd : FuncData} (F : FunD K "__eq__" "Rule.__eq__" (defArgs (sRule 7)) (defBody (sRule 7)) (defScope (sRule 7)) [] [] f fd) (Z : UE P w K mg base) (mq : ∃ f, OwnEq K (aM K) f ∧ FnR P w K mg base CX0 3 f (spMEq K)) : FnOk P w K mg base CX0 5 f fd ["self", "other"] (spRuleEqM K) := by
  obtain ⟨fE, oE, GE⟩ := Z.eq
  obtain ⟨fM, oM, GM⟩ := mq
  have T := Z.U
  have N := Z.N
  refine F.ok scRuleEq (fun vs H Q E h => ?_) (fun cdv A outer s H vs Q E hr h => ?_)
  · obtain ⟨s, x, g, a, rows, ms, rfl, _⟩ := h
    rfl
  · obtain ⟨s0, x, g, a, rows, ms, rfl, ⟨kvs, hs, hms⟩, h⟩ := h
    refine ⟨_, pss_cons (ps_if (pt_not (pt_val (pe_callB call_isi (by rfl) N.isi (by decide +kernel) (pa_cons (pv 1) (pa_cons (pe_glob (v := .ref (aRu K)) rfl T.gU rfl) pa_nil))))) (pss_one (ps_ret pe_bl)) pss_nil)
      (pss_cons (ps_if (PW.pt (pw_or (pt_cmpR op_ne (pe_fld (pv 0) rfl) (pe_fld (pv 1) rfl) (nomark _)) (pw_or1 (pt_cmpR op_ne (pe_fld (pv 0) rfl) (pe_fld (pv 1) rfl) (nomark _))))) (pss_one (ps_ret pe_bl)) pss_nil)
      (pss_one (ps_ret (pe_and (pe_cmpR (op_eqT (monB_tupS monB_th) (eqB_tup monB_th (eqB_th oE GE)) (hr.mono (by decide))) (pe_fld (pv 0) rfl) (pe_fld (pv 1) rfl) (nomark _)) (pe_one (pe_cmpR (op_eqDc monB_mov (eqB_mov oM GM) hr) (pe_fld (pv 0) rfl) (pe_fld (pv 1) rfl) (nomark _))))))), ?_⟩
    rcases h with ⟨⟨t, ty, no⟩, k⟩ | ⟨o, g', a', rows', ms', rfl, ⟨kvs', ho, hms'⟩, k⟩
    · exact ⟨_, rfl, x, .ref (aRu K), t, _, false, rfl, .own _, ty, no, false, rfl, iteT k⟩
    · refine ⟨_, rfl, .ref o, .ref (aRu K), .ref (aRu K), _, true, rfl, .own _, ho.ty Z, isi_self, true, rfl, iteF ?_⟩
      obtain ⟨dx, tw, md, es, hw, hm⟩ := hs
      obtain ⟨dx', tw', md', eo, hw', hm'⟩ := ho
      unfold ruleEq at k
      refine ⟨_, rfl, s0, _, dx, _, _, rfl, es, T.cl, T.nG, rfl, _, rfl, o, _, dx', _, _, rfl, eo, T.cl, T.nG, rfl, rfl, _, rfl, ?_⟩
      by_cases hg : g = g'
      · subst hg
        rw [decide_eq_true rfl, Bool.true_and] at k
        have e : (!decide (V.str g = V.str g)) = false := by simp
        rw [e]
        refine iteF ?_
        refine ⟨_, rfl, s0, _, dx, _, _, rfl, es, T.cl, T.nA, rfl, _, rfl, o, _, dx', _, _, rfl, eo, T.cl, T.nA, rfl, rfl, _, rfl, ?_⟩
        by_cases ha : a = a'
        · subst ha
          rw [decide_eq_true rfl, Bool.true_and] at k
          have e : (!decide (V.str a = V.str a)) = false := by simp
          rw [e]
          refine iteF ?_
          refine ⟨_, rfl, s0, _, dx, _, _, rfl, es, T.cl, T.nW, rfl, _, rfl, o, _, dx', _, _, rfl, eo, T.cl, T.nW, rfl, _, rows_eqB hw hw', fun H1 s1 => ⟨_, rfl, ?_⟩⟩
          cases hb : decide (rows = rows') with
          | false =>
            rw [hb, Bool.false_and] at k
            exact iteF (k _ s1)
          | true =>
            rw [hb, Bool.true_and] at k
            exact iteT ⟨_, rfl, s0, _, dx, _, _, rfl, s1 _ _ es, T.cl, T.nM, rfl, _, rfl, o, _, dx', _, _, rfl, s1 _ _ eo, T.cl, T.nM, rfl, _, mvs_dict (s1 _ _ hm) (s1 _ _ hm') (hms.same s1) (hms'.same s1), fun H2 s2 => k _ (s1.trans s2)⟩
        · rw [decide_eq_false ha, Bool.false_and] at k
          have e : (!decide (V.str a = V.str a')) = true := by simp [ha]
          rw [e]
          exact iteT (k _ fun _ _ e => e)
      · rw [decide_eq_false hg, Bool.false_and] at k
        have e : (!decide (V.str g = V.str g')) = true := by simp [hg]
        rw [e]
        exact iteT (k _ fun _ _ e => e)
/-! ### what a rule tells -/
theorem scRu1 : FnScope ["self"] ["self"] (defScope (sRule 1)) := ⟨rfl, rfl, rfl, by decide +kernel, rfl, by decide +kernel, by decide +kernel⟩
theorem scRu2 : FnScope ["self"] ["self"] (defScope (sRule 2)) := ⟨rfl, rfl, rfl, by decide +kernel, rfl, by decide +kernel, by decide +kernel⟩
theorem scRu3 : FnScope ["self"] ["self"] (defScope (sRule 3)) := ⟨rfl, rfl, rfl, by decide +kernel, rfl, by decide +kernel, by decide +kernel⟩
theorem scRu4 : FnScope ["self"] ["self"] (defScope (sRule 4)) := ⟨rfl, rfl, rfl, by decide +kernel, rfl, by decide +kernel, by decide +kernel⟩
def spRuTell (K : PySem.W.Frag) (c : Bool) : Sp := fun vs H Q _ => ∃ (s : Addr) (g a : Str) (rows : List (Str × Str × Rat)) (ms : List (Str × Mvd)), vs = [.ref s] ∧ RuleM K H s g a rows ms ∧ Q (.str (if c = true then g else a)) H
theorem ok_ruGoal {f : Addr} {fd : FuncData} (F : FunD K "goal" "Rule.goal" (defArgs (sRule 1)) (defBody (sRule 1)) (defScope (sRule 1)) [] [] f fd) (T : UF K mg) : FnOk P w K mg base CX0 1 f fd ["self"] (spRuTell K true) := by
  refine F.ok scRu1 (fun vs H Q E h => ?_) (fun cdv A outer s H vs Q E hr h => ?_)
  · obtain ⟨s, g, a, rows, ms, rfl, _⟩ := h
    rfl
  · obtain ⟨s, g, a, rows, ms, rfl, ⟨kvs, ⟨dx, tw, md, es, _⟩, _⟩, k⟩ := h
    exact ⟨_, pss_one (ps_ret (pe_fld (pv 0) rfl)), _, rfl, s, _, dx, _, _, rfl, es, T.cl, T.nG, rfl, k⟩
theorem ok_ruAns {f : Addr} {fd : FuncData} (F : FunD K "answer" "Rule.answer" (defArgs (sRule 2)) (defBody (sRule 2)) (defScope (sRule 2)) [] [] f fd) (T : UF K mg) : FnOk P w K mg base CX0 1 f fd ["self"] (spRuTell K false) := by
  refine F.ok scRu2 (fun vs H Q E h => ?_) (fun cdv A outer s H vs Q E hr h => ?_)
  · obtain ⟨s, g, a, rows, ms, rfl, _⟩ := h
    rfl
  · obtain ⟨s, g, a, rows, ms, rfl, ⟨kvs, ⟨dx, tw, md, es, _⟩, _⟩, k⟩ := h
    exact ⟨_, pss_one (ps_ret (pe_fld (pv 0) rfl)), _, rfl, s, _, dx, _, _, rfl, es, T.cl, T.nA, rfl, k⟩
def spRuWhen (K : PySem.W.Frag) : Sp := fun vs H Q _ => ∃ (s : Addr) (g a : Str) (rows : List (Str × Str × Rat)) (ms : List (Str × Mvd)), vs = [.ref s] ∧ RuleM K H s g a rows ms ∧ ∀ t, RowsAt K H t rows → Q (.ref t) H
theorem ok_ruWhen {f : Addr} {fd : FuncData} (F : FunD K "when" "Rule.when" (defArgs (sRule 3)) (defBody (sRule 3)) (defScope (sRule 3)) [] [] f fd) (T : UF K mg) : FnOk P w K mg base CX0 1 f fd ["self"] (spRuWhen K) := by
  refine F.ok scRu3 (fun vs H Q E h => ?_) (fun cdv A outer s H vs Q E hr h => ?_)
  · obtain ⟨s, g, a, rows, ms, rfl, _⟩ := h
    rfl
  · obtain ⟨s, g, a, rows, ms, rfl, ⟨kvs, ⟨dx, tw, md, es, hw, _⟩, _⟩, k⟩ := h
    exact ⟨_, pss_one (ps_ret (pe_fld (pv 0) rfl)), _, rfl, s, _, dx, _, _, rfl, es, T.cl, T.nW, rfl, k tw hw⟩
def spRuMoves (K : PySem.W.Frag) : Sp := fun vs H Q _ => ∃ (s : Addr) (g a : Str) (rows : List (Str × Str × Rat)) (ms : List (Str × Mvd)), vs = [.ref s] ∧ RuleM K H s g a rows ms ∧ ∀ p kvs H', Same H H' → H p = none → H' p = some (.dK kvs) → MvsAt K H' kvs ms → Q (.ref p) H'
theorem ok_ruMoves {f : Addr} {fd : FuncData} (F : FunD K "moves" "Rule.moves" (defArgs (sRule 4)) (defBody (sRule 4)) (defScope (sRule 4)) [] [] f fd) (T : UF K mg) (N : NF K mg) : FnOk P w K mg base CX0 1 f fd ["self"] (spRuMoves K) := by
  refine F.ok scRu4 (fun vs H Q E h => ?_) (fun cdv A outer s H vs Q E hr h => ?_)
  · obtain ⟨s, g, a, rows, ms, rfl, _⟩ := h
    rfl
  · obtain ⟨s, g, a, rows, ms, rfl, ⟨kvs, ⟨dx, tw, md, es, hw, hm⟩, hms⟩, k⟩ := h
    refine ⟨_, pss_one (ps_ret (pe_callTy call_dictD (by rfl) N.dict (by decide +kernel) (pa_cons (pe_fld (pv 0) rfl) pa_nil))), _, rfl, s, _, dx, _, _, rfl, es, T.cl, T.nM, rfl, md, kvs, rfl, .of hm, fun p np => ?_⟩
    have u := same_new (o := .dK kvs) np
    exact k p kvs _ u np upd_same (hms.same u)
/-! ### conditions -/
def inAT (sd : Str) : Bool := inV (.str sd) [.str "above", .str "to"]
def inFA (sd : Str) : Bool := inV (.str sd) [.str "from", .str "above"]
/-- whether a condition is true of a number -/
def holdB (r : Str × Str × Rat) (x : Rat) : Bool := decide (cAbove x r.2.2 (inAT r.2.1) = inFA r.2.1)
def CondR (K : PySem.W.Frag) (H : Hp) (c : Addr) (r : Str × Str × Rat) : Prop := ∃ p, H c = some (.tup [.str r.1, .str r.2.1, .ref p]) ∧ RatAt K H p r.2.2
theorem CondR.same {H H' : Hp} {c : Addr} {r : Str × Str × Rat} (h : CondR K H c r) (k : Same H H') : CondR K H' c r := by
  obtain ⟨p, e, hp⟩ := h
  exact ⟨p, k _ _ e, hp.same k⟩
def spCondCut (K : PySem.W.Frag) : Sp := fun vs H Q _ => ∃ (c : Addr) (r : Str × Str × Rat), vs = [.ref c] ∧ CondR K H c r ∧ ∀ t H', Same H H' → CutAt K H' (.ref t) r.2.2 (inAT r.2.1) → Q (.ref t) H'
theorem scCondCut : FnScope ["condition"] ["condition"] (defScope sCondCut) := ⟨rfl, rfl, rfl, by decide +kernel, rfl, by decide +kernel, by decide +kernel⟩
theorem ok_condCut {f : Addr} {fd : FuncData} (F : Fun K "condition_cut" "condition_cut" sCondCut f fd) : FnOk P w K mg base CX0 1 f fd ["condition"] (spCondCut K) := by
  refine F.ok scCondCut (fun vs H Q E h => ?_) (fun cdv A outer s H vs Q E hr h => ?_)
  · obtain ⟨c, r, rfl, _⟩ := h
    rfl
  · obtain ⟨c, r, rfl, ⟨p, hc, hp⟩, k⟩ := h
    refine ⟨_, pss_one (ps_ret (pe_tup (pa_cons (pe_ix ix_tup (pv 0) pe_int (fun _ _ => rfl)) (pa_cons (pe_cmpR op_in_seq (pe_ix ix_tup (pv 0) pe_int (fun _ _ => rfl)) (pe_tup (pa_cons pe_str (pa_cons pe_str pa_nil))) (by with_unfolding_all rfl)) pa_nil)))), ?_⟩
    refine ⟨_, rfl, c, _, _, _, rfl, rfl, SqT.of hc, rfl, _, rfl, c, _, _, _, rfl, rfl, SqT.of hc, rfl, (by show 2 ≤ sizeLine; decide), fun l nl => ?_⟩
    have u1 := same_new (o := .tup [V.str "above", .str "to"]) nl
    have hl : upd H l (.tup [V.str "above", .str "to"]) l = some (.tup [V.str "above", .str "to"]) := upd_same
    generalize upd H l (.tup [V.str "above", .str "to"]) = H1 at *
    refine ⟨l, _, rfl, .inr (SqT.of hl), rfl, rfl, (by show 2 ≤ sizeLine; decide), fun t nt => ?_⟩
    have u2 := same_new (o := .tup [V.ref p, .bl (inAT r.2.1)]) nt
    exact k t _ (u1.trans u2) ⟨t, _, rfl, upd_same, .inr ⟨p, rfl, (hp.same u1).same u2⟩⟩
def spWants (K : PySem.W.Frag) : Sp := fun vs H Q _ => ∃ (c : Addr) (r : Str × Str × Rat), vs = [.ref c] ∧ CondR K H c r ∧ ∀ H', Same H H' → Q (.bl (inFA r.2.1)) H'
theorem scWants : FnScope ["condition"] ["condition"] (defScope sWants) := ⟨rfl, rfl, rfl, by decide +kernel, rfl, by decide +kernel, by decide +kernel⟩
theorem ok_wants {f : Addr} {fd : FuncData} (F : Fun K "wants_above" "wants_above" sWants f fd) : FnOk P w K mg base CX0 1 f fd ["condition"] (spWants K) := by
  refine F.ok scWants (fun vs H Q E h => ?_) (fun cdv A outer s H vs Q E hr h => ?_)
  · obtain ⟨c, r, rfl, _⟩ := h
    rfl
  · obtain ⟨c, r, rfl, ⟨p, hc, hp⟩, k⟩ := h
    refine ⟨_, pss_one (ps_ret (pe_cmpR op_in_seq (pe_ix ix_tup (pv 0) pe_int (fun _ _ => rfl)) (pe_tup (pa_cons pe_str (pa_cons pe_str pa_nil))) (by with_unfolding_all rfl))), ?_⟩
    refine ⟨_, rfl, c, _, _, _, rfl, rfl, SqT.of hc, rfl, (by show 2 ≤ sizeLine; decide), fun l nl => ?_⟩
    have u1 := same_new (o := .tup [V.str "from", .str "above"]) nl
    have hl : upd H l (.tup [V.str "from", .str "above"]) l = some (.tup [V.str "from", .str "above"]) := upd_same
    generalize upd H l (.tup [V.str "from", .str "above"]) = H1 at *
    exact ⟨l, _, rfl, .inr (SqT.of hl), rfl, rfl, k _ u1⟩
end
end K18
set_option maxHeartbeats 4000000
namespace K18
open PySem PySem.Spec PyProof.Rows L2 GL
/-- what the error of an unknown level needs -/
structure EU (P : Program) (w : World) (K : PySem.W.Frag) (mg : Str → Option Value) (base : Heap) : Prop where
  xU : XC K (aUL K) .le
  gU : mg "UnknownLevel" = some (.ref (aUL K))
  mU : MkE P w K mg base (aUL K) ["value"]
/-- numbers by levels, as they are handed in -/
def LevAt (K : PySem.W.Frag) (H : Hp) (d : Addr) (lv : Str → Option Rat) : Prop := ∃ kvs, H d = some (.dK kvs) ∧ ∀ u, (lv u = none ∧ valV kvs (Sum.inr u) = none) ∨ ∃ q v, lv u = some q ∧ valV kvs (Sum.inr u) = some v ∧ NumAt K H v q ∧ Sz 100000 q
theorem LevAt.same {K : PySem.W.Frag} {H H' : Hp} {d : Addr} {lv : Str → Option Rat} (h : LevAt K H d lv) (k : Same H H') : LevAt K H' d lv := by
  obtain ⟨kvs, e, all⟩ := h
  exact ⟨kvs, k _ _ e, fun u => (all u).imp id fun ⟨q, v, e1, e2, n, sz⟩ => ⟨q, v, e1, e2, n.same k, sz⟩⟩
def trB (lv : Str → Option Rat) (r : Str × Str × Rat) : Bool := match lv r.1 with
  | some x => holdB r x
  | none => true
section
variable {P : Program} {w : World} {K : PySem.W.Frag} {mg : Str → Option Value} {base : Heap}
structure RA (P : Program) (w : World) (K : PySem.W.Frag) (mg : Str → Option Value) (base : Heap) : Prop where
  U : UF K mg
  E : EU P w K mg base
  ab : DefF P w K mg base "is_above" 6 ["number", "cut"] (spIsAbove K)
  cc : DefF P w K mg base "condition_cut" 1 ["condition"] (spCondCut K)
  wa : DefF P w K mg base "wants_above" 1 ["condition"] (spWants K)
  all : mg "all" = none
/-- applies: whether all conditions are true; the first level that is missing -/
def spApplies (K : PySem.W.Frag) : Sp := fun vs H Q E => ∃ (s d : Addr) (g a : Str) (rows : List (Str × Str × Rat)) (ms : List (Str × Mvd)) (lv : Str → Option Rat), vs = [.ref s, .ref d] ∧ RuleM K H s g a rows ms ∧ LevAt K H d lv ∧ rows.length ≤ 1000 ∧ (∀ r ∈ rows, Sz 100000 r.2.2) ∧
  (((∀ r ∈ rows, lv r.1 ≠ none) ∧ ∀ H', Same H H' → Q (.bl (rows.all (trB lv))) H') ∨
   ∃ (j : Nat) (r : Str × Str × Rat), rows[j]? = some r ∧ lv r.1 = none ∧ (∀ (i : Nat) (u : Str × Str × Rat), i < j → rows[i]? = some u → lv u.1 ≠ none) ∧ outW (aUL K) [("value", .str r.1)] H E)
abbrev nApplies : List Str := ["self", "levels", "condition", "row"]
theorem scApplies : FnScope nApplies ["self", "levels"] (defScope (sRule 5)) := ⟨rfl, rfl, rfl, by decide +kernel, rfl, by decide +kernel, by decide +kernel⟩
theorem ok_applies {f : Addr} {fd : FuncData} (F : FunD K "applies" "Rule.applies" (defArgs (sRule 5)) (defBody (sRule 5)) (defScope (sRule 5)) [] [] f fd) (X : RA P w K mg base) : FnOk P w K mg base (L2.CX P w) 7 f fd ["self", "levels"] (spApplies K) := by
  obtain ⟨fA, fdA, GA_, gA, bA, kA⟩ := X.ab
  obtain ⟨fC, fdC, GC_, gC, bC, kC⟩ := X.cc
  obtain ⟨fW, fdW, GW_, gW, bW, kW⟩ := X.wa
  obtain ⟨fI, fdI, i1, i2, GI, bI⟩ := X.E.mU
  have T := X.U
  refine F.ok scApplies (fun vs H Q E h => ?_) (fun cdv A outer s H vs Q E hr h => ?_)
  · obtain ⟨s, d, g, a, rows, ms, lv, rfl, _⟩ := h
    rfl
  · obtain ⟨s0, d, g, a, rows, ms, lv, rfl, ⟨kvs, ⟨dx, tw, md, es, hw, hm⟩, hms⟩, hl, lr, sz, h⟩ := h
    have r2 : Room 2 _ := hr.mono (by decide)
    have hu := hr.units
    have hu1 : (A.deeper (envOfC "Rule.applies" (defScope (sRule 5)) s.heap.objs.size f cdv)).units + 1 < cLine := by omega
    refine ⟨_, pss_cons (ps_for (passes_of rfl) rfl (pi_tup (pe_fld (pv 0) rfl)) (pg_name (i := 2) scApplies.nd rfl (.inl rfl))
        (pss_one (ps_if (pt_cmp (pc_dnotin hu1 (pe_ix ix_tup (pv 2) pe_int (fun _ _ => rfl)) (pv 1))) (pss_one (ps_raise rfl (takes_of rfl rfl rfl rfl) (pmk_x X.E.xU i1 i2 GI r2 bI rfl X.E.gU (pa_cons (pe_ix ix_tup (pv 2) pe_int (fun _ _ => rfl)) pa_nil)))) pss_nil)))
      (pss_one (ps_ret (pe_callB (cr_all rfl) (by rfl) X.all (by decide +kernel) (pa_cons (pe_lc (own := [("row", 3)]) (g := gName 3) (tt := tYes) (te := tOp rEq (tCall (spIsAbove K) [] E0 (tCons (tDGet (tVar 1) (tOp (rIxT K) (tVar 3) (tC (.int 0)))) (tCons (tCall (spCondCut K) [] E0 (tCons (tVar 3) tNil)) tNil))) (tCall (spWants K) [] E0 (tCons (tVar 3) tNil))) rfl scApplies.nd (pi_tup (pe_fld (pv 0) rfl))
        (blkOk_by (own := [("row", 3)]) (N := nApplies) (sc := defScope (sRule 5)) (by decide +kernel)) (fun _ _ _ _ _ => pg_name (i := 3) scApplies.nd rfl (Or.inl rfl)) (fun _ _ _ _ _ => pts_nil)
        (fun _ _ _ _ _ => by exact (pe_cmpR op_eq (pe_call GA_ hr rfl gA kA bA .nil pass0 (pa_cons (pe_dget hu1 (pv 1) (pe_ix (show IxR _ (rIxT K) from ix_tup) (pv 3) pe_int (fun _ _ => rfl)) (fun _ _ => rfl)) (pa_cons (pe_call GC_ (hr.mono (by decide)) rfl gC kC bC .nil pass0 (pa_cons (pv 3) pa_nil)) pa_nil))) (pe_call GW_ (hr.mono (by decide)) rfl gW kW bW .nil pass0 (pa_cons (pv 3) pa_nil)) (nomark _)))) pa_nil)))), ?_⟩
    obtain ⟨ys, hy, ly, iy⟩ := hw
    obtain ⟨lk, hd, look⟩ := hl
    have row : ∀ {G : Hp} {i : Nat} {y : V}, Same H G → ys[i]? = some y → ∃ c r, y = .ref c ∧ rows[i]? = some r ∧ CondR K G c r := by
      intro G i y k e
      have il : i < rows.length := by
        rw [← ly]
        exact (List.getElem?_eq_some_iff.mp e).1
      obtain ⟨c, p, rfl, hc, hp⟩ := iy i y rows[i] e (List.getElem?_eq_getElem il)
      exact ⟨c, rows[i], rfl, List.getElem?_eq_getElem il, p, k _ _ hc, hp.same k⟩
    refine ⟨_, rfl, s0, _, dx, _, _, rfl, es, T.cl, T.nW, rfl, tw, rfl, ⟨_, SqT.of hy⟩, ?_⟩
    rcases h with ⟨have_, k⟩ | ⟨j, rj, hj, nj, bef, out⟩
    · refine for_it walk_tup (fun i z G => Same H G ∧ ∃ v2, z = [some (.ref s0), some (.ref d), v2, none]) ⟨fun _ _ e => e, none, rfl⟩ (fun i z G _ h => L2.SqT.ext (SqT.of hy) h.1) ?_ ?_
      · rintro i y z G G' hi ⟨sG, v2, rfl⟩ ⟨rfl, e2⟩
        obtain ⟨c, r, rfl, er, p, hc, hp⟩ := row sG e2
        rcases look r.1 with ⟨e, _⟩ | ⟨q, v, e1, ev, _⟩
        · exact absurd e (have_ r (List.mem_of_getElem? er))
        · refine ⟨_, rfl, c, _, _, _, rfl, rfl, SqT.of hc, rfl, _, rfl, d, _, rfl, DGet.k (k := Sum.inr r.1) (sG _ _ hd), _, rfl, ?_⟩
          rw [ev]
          exact iteF ⟨sG, _, rfl⟩
      · rintro z G ⟨sG, v2, rfl⟩
        refine ⟨_, rfl, s0, _, dx, _, _, rfl, sG _ _ es, T.cl, T.nW, rfl, tw, rfl, ⟨_, SqT.of (sG _ _ hy)⟩, fun D hD => ?_⟩
        refine lc_it walk_tup (fun i G' => Same G G' ∧ G' D = some (.lst ((rows.take i).map fun r => V.bl (trB lv r)))) ⟨same_new hD, upd_same⟩ (fun i G' _ h => L2.SqT.ext (SqT.of (sG _ _ hy)) h.1) ?_ ?_
        · rintro i y G1 G1' hi ⟨s1, h1⟩ ⟨rfl, e2⟩
          have sA := sG.trans s1
          obtain ⟨c, r, rfl, er, hcr⟩ := row sA e2
          obtain ⟨p, hc, hp⟩ := id hcr
          rcases look r.1 with ⟨e, _⟩ | ⟨q, v, e1, ev, num, sq⟩
          · exact absurd e (have_ r (List.mem_of_getElem? er))
          refine ⟨rfl, ?_⟩
          refine ⟨_, rfl, _, rfl, c, _, _, _, rfl, rfl, SqT.of hc, rfl, d, v, rfl, .inl ⟨lk, .inr r.1, .of (sA _ _ hd), rfl, ev.symm⟩, ?_⟩
          refine ⟨_, rfl, c, r, rfl, hcr, fun t G2 s2 cut => ?_⟩
          refine ⟨v, .ref t, q, r.2.2, _, rfl, (num.same sA).same s2, cut, sz r (List.mem_of_getElem? er), sq, fun G3 s3 => ?_⟩
          refine ⟨_, rfl, c, r, rfl, (hcr.same s2).same s3, fun G4 s4 => ⟨rfl, ?_⟩⟩
          have sB := (s2.trans s3).trans s4
          have hD4 := sB _ _ h1
          have il : i < rows.length := by
            rw [← ly]
            exact hi
          refine ⟨_, hD4, (by rw [List.length_map, List.length_take, sizeLine_eq]; omega), fun b o e => ?_, ?_⟩
          · rw [upd_ne (ne_of_none e hD)]
            exact sB _ _ (s1 _ _ e)
          · have eb : decide (V.bl (cAbove q r.2.2 (inAT r.2.1)) = V.bl (inFA r.2.1)) = trB lv r := by
              unfold trB holdB
              rw [e1]
              simp
            rw [upd_same, eb, List.take_succ, er]
            simp
        · rintro G2 ⟨s2, h2⟩
          rw [ly, List.take_length] at h2
          refine ⟨D, rows.map (trB lv), rfl, SqL.of (by rw [h2, List.map_map]; rfl), ?_⟩
          rw [List.all_map]
          exact k _ (sG.trans s2)
    · refine for_it walk_tup (fun i z G => i ≤ j ∧ Same H G ∧ ∃ v2, z = [some (.ref s0), some (.ref d), v2, none]) ⟨Nat.zero_le _, fun _ _ e => e, none, rfl⟩ (fun i z G _ h => L2.SqT.ext (SqT.of hy) h.2.1) ?_ ?_
      · rintro i y z G G' hi ⟨le, sG, v2, rfl⟩ ⟨rfl, e2⟩
        obtain ⟨c, r, rfl, er, p, hc, hp⟩ := row sG e2
        refine ⟨_, rfl, c, _, _, _, rfl, rfl, SqT.of hc, rfl, _, rfl, d, _, rfl, DGet.k (k := Sum.inr r.1) (sG _ _ hd), _, rfl, ?_⟩
        rcases Nat.lt_or_eq_of_le le with lt | rfl
        · rcases look r.1 with ⟨e, _⟩ | ⟨q, v, e1, ev, _⟩
          · exact absurd e (bef i r lt er)
          · rw [ev]
            exact iteF ⟨lt, sG, _, rfl⟩
        · obtain rfl : rj = r := Option.some.inj (hj.symm.trans er)
          rcases look rj.1 with ⟨e, ev⟩ | ⟨q, v, e1, ev, _⟩
          · rw [ev]
            refine iteT ⟨_, rfl, c, _, _, _, rfl, rfl, SqT.of hc, rfl, rfl, by show 1 ≤ 1000; decide, ?_⟩
            exact fun dd H2 k2 n2 e3 => (out.same sG) dd H2 k2 n2 e3
          · rw [nj] at e1
            cases e1
      · rintro z G ⟨le, _⟩
        rw [ly] at le
        exact absurd (List.getElem?_eq_some_iff.mp hj).1 (Nat.not_lt.mpr le)
end
end K18
set_option maxHeartbeats 4000000
namespace K18
open PySem PySem.Spec PyProof.Rows L2 GL StX
/-- a name -/
def NameS (s : Str) : Prop := s.length ≤ 100 ∧ (∀ u ∈ Txt.split s ".", u.length ≤ 1000) ∧ nameB s = true
theorem NameS.nm {K : PySem.W.Frag} {H : Hp} {s : Str} (h : NameS s) : IsNm K H (.str s) true := .inl ⟨s, rfl, h.1, h.2.1, h.2.2.symm⟩
def nameD (s : Str) : Bool := decide (s.length ≤ 100) && ((Txt.split s ".").all (fun u => decide (u.length ≤ 1000)) && nameB s)
theorem NameS.of {s : Str} (h : nameD s = true) : NameS s := by
  simp only [nameD, Bool.and_eq_true, decide_eq_true_eq, List.all_eq_true] at h
  exact ⟨h.1, h.2.1, h.2.2⟩
/-- rows whose names and sides are right -/
def RowsOk (rows : List (Str × Str × Rat)) : Prop := ∀ r ∈ rows, NameS r.1 ∧ sideB r.2.1 = true
section
variable {K : PySem.W.Frag}
theorem conds_cond {H : Hp} {xs : List V} {rows : List (Str × Str × Rat)} (h : CondsAt K H xs rows) (ok : RowsOk rows) : ∀ v ∈ xs, CondB K H v true := by
  intro v hv
  obtain ⟨i, hi⟩ := List.getElem?_of_mem hv
  have il : i < rows.length := by
    rw [← h.1]
    exact (List.getElem?_eq_some_iff.mp hi).1
  obtain ⟨c, num, rfl, hc, hn⟩ := h.2 i v rows[i] hi (List.getElem?_eq_getElem il)
  obtain ⟨o1, o2⟩ := ok rows[i] (List.getElem_mem il)
  exact .inr ⟨c, _, rfl, hc, .inr ⟨_, _, _, true, true, true, rfl, o1.nm, .inl ⟨_, rfl, o2.symm⟩, .inl ⟨rfl, _, hn⟩, rfl⟩⟩
theorem CondsAt.same {H H' : Hp} {xs : List V} {rows : List (Str × Str × Rat)} (h : CondsAt K H xs rows) (k : Same H H') : CondsAt K H' xs rows := ⟨h.1, fun i v r e1 e2 => by
  obtain ⟨c, num, ev, hc, hn⟩ := h.2 i v r e1 e2
  exact ⟨c, num, ev, k _ _ hc, hn.same k⟩⟩
end
end K18
set_option maxHeartbeats 4000000
namespace K18
open PySem PySem.Spec PyProof.Rows L2 GL
theorem lookup_map {ms : List (Str × Mvd)} {d : Mvd} (nd : (ms.map (·.1)).Nodup) : (ms.map (·.1)).map (fun u => (u, (ms.lookup u).getD d)) = ms := by
  induction ms with
  | nil => rfl
  | cons x r ih =>
    obtain ⟨n, m⟩ := x
    rw [List.map_cons, List.nodup_cons] at nd
    obtain ⟨no, nd⟩ := nd
    rw [List.map_cons, List.map_cons]
    have e1 : (((n, m) :: r).lookup n).getD d = m := by simp [List.lookup]
    have e2 : (r.map (·.1)).map (fun u => (u, (((n, m) :: r).lookup u).getD d)) = (r.map (·.1)).map (fun u => (u, (r.lookup u).getD d)) := by
      refine List.map_congr_left fun u hu => ?_
      have ne : (u == n) = false := beq_eq_false_iff_ne.mpr fun z => no (z ▸ hu)
      simp [List.lookup, ne]
    rw [e2, ih nd]
    simp [List.lookup]
/-- the moves that are given -/
def MovesGiven (K : PySem.W.Frag) (H : Hp) (mv : V) (ms : List (Str × Mvd)) : Prop := (mv = .non ∧ ms = []) ∨ ∃ d kvs, mv = .ref d ∧ H d = some (.dK kvs) ∧ MvsAt K H kvs ms ∧ ms.length < 64 ∧ (ms.map (·.1)).Nodup ∧ ∀ n ∈ ms.map (·.1), NameS n
theorem MovesGiven.same {K : PySem.W.Frag} {H H' : Hp} {mv : V} {ms : List (Str × Mvd)} (h : MovesGiven K H mv ms) (k : Same H H') : MovesGiven K H' mv ms := by
  rcases h with h | ⟨d, kvs, e, hd, m, l, nd, nm⟩
  · exact .inl h
  · exact .inr ⟨d, kvs, e, k _ _ hd, m.same k, l, nd, nm⟩
/-- the moves as a rule has them: sorted by levels -/
def SortM (ms ms' : List (Str × Mvd)) : Prop := ms'.Perm ms ∧ sortedS (ms'.map (·.1)) = true
section
variable {K : PySem.W.Frag}
theorem mvs_of {H : Hp} {kvs : List (Key × V)} {ms : List (Str × Mvd)} {d : Mvd} (h : MvsAt K H kvs ms) : ∀ {ys : List Str}, (∀ u ∈ ys, u ∈ ms.map (·.1)) → MvsAt K H (movesOf kvs ys) (ys.map fun u => (u, (ms.lookup u).getD d))
  | [], _ => trivial
  | u :: r, hu => by
    refine ⟨rfl, ?_, mvs_of h fun v hv => hu v (List.mem_cons_of_mem _ hv)⟩
    rcases h.look (u := u) with ⟨e, _⟩ | ⟨p, m, e1, e2, hp⟩
    · exfalso
      have z := hu u List.mem_cons_self
      obtain ⟨x, hx, ex⟩ := List.mem_map.mp z
      rw [List.lookup_eq_none_iff] at e
      have q := e x hx
      rw [ex] at q
      simp at q
    · rw [e1, e2]
      exact ⟨p, rfl, hp⟩
/-- a rule whose own dict is new -/
def RuleN (K : PySem.W.Frag) (H H' : Hp) (s : Addr) (g a : Str) (rows : List (Str × Str × Rat)) (ms : List (Str × Mvd)) : Prop := ∃ kvs dx tw md, H' s = some (.ins (aRu K) dx [("_goal", .str g), ("_answer", .str a), ("_when", .ref tw), ("_moves", .ref md)]) ∧ RowsAt K H' tw rows ∧ H' md = some (.dK kvs) ∧ MvsAt K H' kvs ms ∧ H md = none
theorem RuleN.m {H H' : Hp} {s : Addr} {g a : Str} {rows : List (Str × Str × Rat)} {ms : List (Str × Mvd)} (h : RuleN K H H' s g a rows ms) : RuleM K H' s g a rows ms := by
  obtain ⟨kvs, dx, tw, md, es, r, hm, mm, _⟩ := h
  exact ⟨kvs, ⟨dx, tw, md, es, r, hm⟩, mm⟩
/-- a rule is made -/
theorem rule_fullN {mg : Str → Option Value} {H : Hp} {x dx aw : Addr} {g a : Str} {xs : List V} {t : Value} {rows : List (Str × Str × Rat)} {mv : V} {ms : List (Str × Mvd)} {Q : VK} {E : XK} (TM : MF K mg) (hx : H x = none) (hd : H dx = none) (ng : NameS g) (na : NameS a) (ty : TyX K H (.ref aw) t) (kt : PySem.W.kitAny K t [.type "list", .type "tuple"] = some true)
    (sq : SqL K H aw xs ∨ SqT K H aw xs) (cs : CondsAt K H xs rows) (ok : RowsOk rows) (l8 : xs.length ≤ 8) (mvs : MovesGiven K H mv ms) (k : ∀ H' ms', Same H H' → SortM ms ms' → RuleN K H H' x g a rows ms' → Q .non H') :
    spRuleI K [.ref x, .str g, .str a, .ref aw, mv] (upd (upd H dx (.own x)) x (.ins (aRu K) dx [])) Q E := by
  have up : Same H (upd (upd H dx (.own x)) x (.ins (aRu K) dx [])) := fun b o e => by rw [upd_ne (ne_of_none e hx), upd_ne (ne_of_none e hd)]; exact e
  have ex : upd (upd H dx (.own x)) x (.ins (aRu K) dx []) x = some (.ins (aRu K) dx []) := upd_same
  refine ⟨x, dx, _, _, _, _, rfl, .inr ⟨fun v hv => ?_, fun H1 s1 => ?_⟩⟩
  · simp only [List.mem_cons, List.not_mem_nil, or_false] at hv
    rcases hv with rfl | rfl
    · exact ng.nm
    · exact na.nm
  have u1 := up.trans s1
  refine ⟨_, rfl, .inr ⟨aw, xs, t, rfl, TyX.same' ty u1, kt, sq.imp (fun h => L2.SqL.ext h u1) (fun h => L2.SqT.ext h u1), by omega, .inl ⟨conds_cond (cs.same u1) ok, fun H2 s2 => ?_⟩⟩⟩
  have tail : ∀ H3, Same H2 H3 → RuleTail K x dx (.str g) (.str a) (.ref aw) mv H3 Q E := by
    intro H3 s3
    have u3 := (u1.trans s2).trans s3
    refine ⟨s3 _ _ (s2 _ _ (s1 _ _ ex)), aw, xs, rfl, sq.imp (fun h => L2.SqL.ext h u3) (fun h => L2.SqT.ext h u3), .inr ?_⟩
    rcases mvs with ⟨e1, e2⟩ | ⟨d, kvs, e1, hdd, m, l2, nd, nm⟩
    · subst e1
      subst e2
      refine ⟨rows, [], [], l8, cs.same u3, .inl ⟨rfl, rfl, rfl⟩, fun H' tw md ys kp pm so hr hm hs nmd => ?_⟩
      have y0 : ys = [] := List.perm_nil.mp pm
      subst y0
      exact k H' [] (fun b o e => kp b o (ne_of_none e hx) (u3 b o e)) ⟨.nil, rfl⟩ ⟨[], dx, tw, md, hs, hr, hm, trivial, none_of u3 nmd⟩
    · subst e1
      refine ⟨rows, kvs, ms.map (·.1), l8, cs.same u3, .inr ⟨d, rfl, u3 _ _ hdd, m.keys, by rw [List.length_map]; exact l2, nd⟩, fun H' tw md ys kp pm so hr hm hs nmd => ?_⟩
      have sZ : Same H H' := fun b o e => kp b o (ne_of_none e hx) (u3 b o e)
      have mem : ∀ u ∈ ys, u ∈ ms.map (·.1) := fun u hu => pm.mem_iff.mp hu
      refine k H' (ys.map fun u => (u, (ms.lookup u).getD (0, 0, 0, 0))) sZ ⟨?_, ?_⟩ ⟨movesOf kvs ys, dx, tw, md, hs, hr, hm, mvs_of (m.same sZ) mem, none_of u3 nmd⟩
      · have z := pm.map fun u => (u, (ms.lookup u).getD (0, 0, 0, 0))
        rwa [lookup_map nd] at z
      · rw [List.map_map]
        have e : (ys.map ((fun x : Str × Mvd => x.1) ∘ fun u => (u, (ms.lookup u).getD (0, 0, 0, 0)))) = ys := (List.map_congr_left (g := id) fun u _ => rfl).trans (List.map_id ys)
        rw [e]
        exact so
  rcases mvs with ⟨e1, e2⟩ | ⟨d, kvs, e1, hdd, m, l2, nd, nm⟩
  · subst e1
    exact ⟨_, rfl, .inl ⟨rfl, tail H2 fun _ _ e => e⟩⟩
  · subst e1
    have u2 := u1.trans s2
    have kvk : ∀ kv ∈ kvs, ∃ n, kv.1 = Sum.inr n ∧ NameS n := fun kv hk => by
      have z : kv.1 ∈ kvs.map (·.1) := List.mem_map.mpr ⟨kv, hk, rfl⟩
      rw [m.keys] at z
      obtain ⟨n, hn, e⟩ := List.mem_map.mp z
      exact ⟨n, e.symm, nm n hn⟩
    refine ⟨_, rfl, .inr (.inr (.inr ⟨d, kvs, rfl, u2 _ _ hdd, by rw [m.len]; omega, fun kv hk => ?_, .inr ⟨List.all_eq_true.mpr fun kv hk => ?_, ms.map (·.1), m.keys, by rw [List.length_map]; exact l2, .inl ⟨fun u hu => ?_, tail⟩⟩⟩))⟩
    · obtain ⟨n, e, hn⟩ := kvk kv hk
      rw [e]
      exact ⟨hn.1, hn.2.1⟩
    · obtain ⟨n, e, hn⟩ := kvk kv hk
      rw [e]
      exact hn.2.2
    · rcases (m.same u2).look (u := u) with ⟨e, _⟩ | ⟨p, mm, e1, e2, hp⟩
      · exfalso
        obtain ⟨y, hy, ey⟩ := List.mem_map.mp hu
        rw [List.lookup_eq_none_iff] at e
        have q := e y hy
        rw [ey] at q
        simp at q
      · exact ⟨_, e2, _, MovAt.ty TM hp, isi_self⟩
theorem rule_full {mg : Str → Option Value} {H : Hp} {x dx aw : Addr} {g a : Str} {xs : List V} {t : Value} {rows : List (Str × Str × Rat)} {mv : V} {ms : List (Str × Mvd)} {Q : VK} {E : XK} (TM : MF K mg) (hx : H x = none) (hd : H dx = none) (ng : NameS g) (na : NameS a) (ty : TyX K H (.ref aw) t) (kt : PySem.W.kitAny K t [.type "list", .type "tuple"] = some true)
    (sq : SqL K H aw xs ∨ SqT K H aw xs) (cs : CondsAt K H xs rows) (ok : RowsOk rows) (l8 : xs.length ≤ 8) (mvs : MovesGiven K H mv ms) (k : ∀ H' ms', Same H H' → SortM ms ms' → RuleM K H' x g a rows ms' → Q .non H') :
    spRuleI K [.ref x, .str g, .str a, .ref aw, mv] (upd (upd H dx (.own x)) x (.ins (aRu K) dx [])) Q E :=
  rule_fullN TM hx hd ng na ty kt sq cs ok l8 mvs fun H' ms' s so r => k H' ms' s so r.m
/-! ### equal moves -/
theorem lookup_mem {ms : List (Str × Mvd)} {n : Str} {m : Mvd} (nd : (ms.map (·.1)).Nodup) (h : (n, m) ∈ ms) : ms.lookup n = some m := by
  induction ms with
  | nil => cases h
  | cons x r ih =>
    obtain ⟨n', m'⟩ := x
    rw [List.map_cons, List.nodup_cons] at nd
    rcases List.mem_cons.mp h with e | h
    · cases e
      simp [List.lookup]
    · have ne : (n == n') = false := beq_eq_false_iff_ne.mpr fun z => nd.1 (z ▸ List.mem_map.mpr ⟨(n, m), h, rfl⟩)
      simp only [List.lookup, ne]
      exact ih nd.2 h
theorem mvEq_perm {ms ns : List (Str × Mvd)} (nd : (ns.map (·.1)).Nodup) (p : ms.Perm ns) : mvEq ms ns = true := by
  unfold mvEq
  rw [decide_eq_true p.length_eq, Bool.true_and, List.all_eq_true]
  intro x hx
  exact decide_eq_true (lookup_mem nd (p.mem_iff.mp hx))
theorem mvEq_no {ms ns : List (Str × Mvd)} {n : Str} {m : Mvd} (h : (n, m) ∈ ms) (no : ns.lookup n ≠ some m) : mvEq ms ns = false := by
  unfold mvEq
  rw [Bool.and_eq_false_iff]
  right
  rw [List.all_eq_false]
  exact ⟨(n, m), h, by simpa using no⟩
theorem mvEq_len {ms ns : List (Str × Mvd)} (h : ms.length ≠ ns.length) : mvEq ms ns = false := by
  unfold mvEq
  rw [decide_eq_false h, Bool.false_and]
theorem SortM.nd {ms ms' : List (Str × Mvd)} (h : SortM ms ms') (nd : (ms.map (·.1)).Nodup) : (ms'.map (·.1)).Nodup := ((h.1.map (·.1)).nodup_iff).mpr nd
end
end K18
set_option maxHeartbeats 4000000
namespace K18
open PySem PySem.Spec PyProof.Rows L2 GL
abbrev sLowest : Stmt := tp 49
abbrev sLess : Stmt := tp 50
abbrev sBetween : Stmt := tp 51
abbrev sGiven : Stmt := tp 52
/-- a fraction of the law's own: a tuple of two numbers, in lowest terms -/
def PartAt (H : Hp) (t : Addr) (q : Rat) : Prop := H t = some (.tup [.int q.num, .int (q.den : Int)])
theorem PartAt.same {H H' : Hp} {t : Addr} {q : Rat} (h : PartAt H t q) (k : Same H H') : PartAt H' t q := k _ _ h
theorem pos_norm {t b : Int} (hb : 0 < b) : t.fdiv (t.natAbs.gcd b.natAbs : Int) = (Rat.divInt t b).num ∧ b.fdiv (t.natAbs.gcd b.natAbs : Int) = ((Rat.divInt t b).den : Int) := by
  have N := norm (t := t) (b := b) (by omega)
  rw [if_pos hb] at N
  exact N
theorem abs_is (i : Int) : (if i < 0 then -i else i) = (i.natAbs : Int) := by
  split <;> omega
theorem mul4 {i : Int} {n : Nat} {d : Nat} (hi : i.natAbs < 2 ^ n) (hd : d < 2 ^ n) (h0 : 0 < n) (h : n ≤ 1000) : CMulW i (d : Int) := wide_mul (a := n) (b := n) hi (by rw [Int.natAbs_natCast]; exact hd) h0 h0 (by omega)
section
variable {P : Program} {w : World} {K : PySem.W.Frag} {mg : Str → Option Value} {base : Heap}
def spLowest (K : PySem.W.Frag) : Sp := fun vs H Q _ => ∃ (t b : Int), vs = [.int t, .int b] ∧ 0 < b ∧ b.natAbs < 2 ^ 4000 ∧ ∀ p H', Same H H' → H p = none → PartAt H' p (Rat.divInt t b) → Q (.ref p) H'
theorem scLowest : FnScope ["_law_top", "_law_bottom", "_law_shared", "_law_rest"] ["_law_top", "_law_bottom"] (defScope sLowest) := ⟨rfl, rfl, rfl, by decide +kernel, rfl, by decide +kernel, by decide +kernel⟩
theorem ok_lowest {f : Addr} {fd : FuncData} (F : Fun K "_law_lowest" "_law_lowest" sLowest f fd) (T : Free mg) : FnOk P w K mg base CX0 1 f fd ["_law_top", "_law_bottom"] (spLowest K) := by
  refine F.ok scLowest (fun vs H Q E h => ?_) (fun cdv A outer s H vs Q E hr h => ?_)
  · obtain ⟨t, b, rfl, _⟩ := h
    rfl
  · obtain ⟨t, b, rfl, hb, hz, k⟩ := h
    refine ⟨_, pss_cons (ps_par (i := 2) (j := 3) (by rfl) scLowest.nd rfl rfl (by decide) rfl rfl (pa_cons (pe_callB call_abs (by rfl) T.abs (by decide +kernel) (pa_cons (pv 0) pa_nil)) (pa_cons (pv 1) pa_nil)) (by rfl))
      (pss_cons (ps_while PassesOwn.never (pt_cmpR op_gt (pv 3) pe_int (nomark _)) (pss_one (ps_par (i := 2) (j := 3) (by rfl) scLowest.nd rfl rfl (by decide) rfl rfl (pa_cons (pv 3) (pa_cons (pe_op op_modN (pe_callTy call_int1 (by rfl) T.int (by decide +kernel) (pa_cons (pv 2) pa_nil)) (pv 3)) pa_nil)) (by rfl))))
      (pss_one (ps_ret (pe_tup (pa_cons (pe_op op_fdivZ (pv 0) (pv 2)) (pa_cons (pe_op op_fdivZ (pv 1) (pv 2)) pa_nil)))))), ?_⟩
    refine ⟨_, rfl, _, rfl, _, rfl, _, _, rfl, ?_⟩
    rw [abs_is]
    have gp : 0 < t.natAbs.gcd b.natAbs := Nat.gcd_pos_of_pos_right _ (Int.natAbs_pos.mpr (by omega))
    have gl : (t.natAbs.gcd b.natAbs).log2 < 9000 := log2_lt (Nat.lt_of_lt_of_le (Nat.lt_of_le_of_lt (Nat.gcd_le_right _ (Int.natAbs_pos.mpr (by omega))) hz) (Nat.pow_le_pow_right (by decide) (by decide))) (by decide)
    have N := pos_norm (t := t) hb
    have eb : b = (b.natAbs : Int) := by omega
    generalize hG : t.natAbs.gcd b.natAbs = G at *
    refine ⟨fun m σ H' => ∃ f s : Nat, m = s ∧ H' = H ∧ σ = [some (.int t), some (.int b), some (.int (f : Int)), some (.int (s : Int))] ∧ f.gcd s = G, ⟨_, t.natAbs, b.natAbs, rfl, rfl, by rw [← eb]; rfl, hG⟩, ?_⟩
    rintro s σ H1 ⟨f, s2, rfl, rfl, rfl, hg⟩
    refine ⟨_, rfl, _, _, rfl, rfl, _, rfl, ?_⟩
    by_cases z : s = 0
    · have e : decide ((s : Int) > 0) = false := by rw [z]; rfl
      dsimp only
      rw [e]
      subst z
      rw [Nat.gcd_zero_right] at hg
      subst hg
      refine iteF ⟨_, rfl, _, rfl, _, _, rfl, rfl, ⟨by omega, by rw [Int.natAbs_natCast]; exact gl⟩, _, rfl, _, rfl, _, _, rfl, rfl, ⟨by omega, by rw [Int.natAbs_natCast]; exact gl⟩, (by show 2 ≤ sizeLine; decide), fun p np => ?_⟩
      dsimp only
      rw [N.1, N.2]
      exact k p _ (same_new np) np upd_same
    · have e : decide ((s : Int) > 0) = true := decide_eq_true (by omega)
      dsimp only
      rw [e]
      refine iteT ⟨fun σ' H' => H' = H1 ∧ σ' = [some (.int t), some (.int b), some (.int (s : Int)), some (.int ((f % s : Nat) : Int))], ?_, ?_⟩
      · rintro σ' H' ⟨rfl, rfl⟩
        refine ⟨f % s, Nat.mod_lt _ (by omega), s, f % s, rfl, rfl, rfl, ?_⟩
        rw [← hg, Nat.gcd_comm s, ← Nat.gcd_rec, Nat.gcd_comm]
      · refine ⟨_, rfl, _, rfl, .inl ⟨_, rfl, _, rfl, _, _, rfl, rfl, (by show (s : Int) ≠ 0; omega), _, _, rfl, rfl, ?_⟩⟩
        show [some (V.int t), some (.int b), some (.int (s : Int)), some (.int ((f : Int).fmod (s : Int)))] = _
        rw [Int.fmod_eq_emod_of_nonneg _ (by omega)]
        rfl
/-! ### whether one is less -/
def spLess (K : PySem.W.Frag) : Sp := fun vs H Q _ => ∃ (s t : Addr) (q r : Rat), vs = [.ref s, .ref t] ∧ PartAt H s q ∧ PartAt H t r ∧ Sz 1000 q ∧ Sz 1000 r ∧ Q (.bl (rBelow q r)) H
theorem scLess : FnScope ["_law_one", "_law_beside"] ["_law_one", "_law_beside"] (defScope sLess) := ⟨rfl, rfl, rfl, by decide +kernel, rfl, by decide +kernel, by decide +kernel⟩
theorem ok_less {f : Addr} {fd : FuncData} (F : Fun K "_law_less" "_law_less" sLess f fd) : FnOk P w K mg base CX0 1 f fd ["_law_one", "_law_beside"] (spLess K) := by
  refine F.ok scLess (fun vs H Q E h => ?_) (fun cdv A outer s H vs Q E hr h => ?_)
  · obtain ⟨s, t, q, r, rfl, _⟩ := h
    rfl
  · obtain ⟨s, t, q, r, rfl, hs, ht, sq, sr, k⟩ := h
    refine ⟨_, pss_one (ps_ret (pe_cmpR op_lt (pe_op op_mulW (pe_ix ix_tup (pv 0) pe_int (fun _ _ => rfl)) (pe_ix ix_tup (pv 1) pe_int (fun _ _ => rfl))) (pe_op op_mulW (pe_ix ix_tup (pv 1) pe_int (fun _ _ => rfl)) (pe_ix ix_tup (pv 0) pe_int (fun _ _ => rfl))) (nomark _))), ?_⟩
    refine ⟨_, rfl, s, _, _, _, rfl, rfl, SqT.of hs, rfl, _, rfl, t, _, _, _, rfl, rfl, SqT.of ht, rfl, _, _, rfl, rfl, mul4 sq.1 sr.den (by decide) (by decide), ?_⟩
    exact ⟨_, rfl, t, _, _, _, rfl, rfl, SqT.of ht, rfl, _, rfl, s, _, _, _, rfl, rfl, SqT.of hs, rfl, _, _, rfl, rfl, mul4 sr.1 sq.den (by decide) (by decide), _, _, rfl, rfl, k⟩
/-! ### between two numbers -/
def bTop (lo hi : Rat) (k : Int) : Int := lo.num * (hi.den : Int) * (4 - k) + hi.num * (lo.den : Int) * k
def betw (lo hi : Rat) (k : Int) : Rat := Rat.divInt (bTop lo hi k) (4 * (lo.den : Int) * (hi.den : Int))
def spBetween (K : PySem.W.Frag) : Sp := fun vs H Q _ => ∃ (s t : Addr) (lo hi : Rat) (k : Int), vs = [.ref s, .ref t, .int k] ∧ PartAt H s lo ∧ PartAt H t hi ∧ Sz 30 lo ∧ Sz 30 hi ∧ -8 ≤ k ∧ k ≤ 8 ∧ ∀ p H', Same H H' → H p = none → PartAt H' p (betw lo hi k) → Q (.ref p) H'
theorem scBetween : FnScope ["_law_low", "_law_high", "_law_share", "_law_top"] ["_law_low", "_law_high", "_law_share"] (defScope sBetween) := ⟨rfl, rfl, rfl, by decide +kernel, rfl, by decide +kernel, by decide +kernel⟩
theorem ok_between {f : Addr} {fd : FuncData} (F : Fun K "_law_between" "_law_between" sBetween f fd) (lw : DefF P w K mg base "_law_lowest" 1 ["_law_top", "_law_bottom"] (spLowest K)) : FnOk P w K mg base CX0 2 f fd ["_law_low", "_law_high", "_law_share"] (spBetween K) := by
  obtain ⟨fL, fdL, GL_, gL, bL, kL⟩ := lw
  refine F.ok scBetween (fun vs H Q E h => ?_) (fun cdv A outer s H vs Q E hr h => ?_)
  · obtain ⟨s, t, lo, hi, k, rfl, _⟩ := h
    rfl
  · obtain ⟨s, t, lo, hi, k, rfl, hs, ht, sl, sh, k0, k1, go⟩ := h
    refine ⟨_, pss_cons (ps_set (i := 3) scBetween.nd rfl (Or.inl rfl) (pe_op op_add (pe_op op_mulW (pe_op op_mulW (pe_ix ix_tup (pv 0) pe_int (fun _ _ => rfl)) (pe_ix ix_tup (pv 1) pe_int (fun _ _ => rfl))) (pe_op op_sub pe_int (pv 2))) (pe_op op_mulW (pe_op op_mulW (pe_ix ix_tup (pv 1) pe_int (fun _ _ => rfl)) (pe_ix ix_tup (pv 0) pe_int (fun _ _ => rfl))) (pv 2))))
      (pss_one (ps_ret (pe_call GL_ hr rfl gL kL bL .nil pass0 (pa_cons (pv 3) (pa_cons (pe_op op_mulW (pe_op op_mulW pe_int (pe_ix ix_tup (pv 0) pe_int (fun _ _ => rfl))) (pe_ix ix_tup (pv 1) pe_int (fun _ _ => rfl))) pa_nil))))), ?_⟩
    have dl : 0 < lo.den := lo.den_pos
    have dh : 0 < hi.den := hi.den_pos
    refine ⟨_, rfl, s, _, _, _, rfl, rfl, SqT.of hs, rfl, _, rfl, t, _, _, _, rfl, rfl, SqT.of ht, rfl, _, _, rfl, rfl, mul4 sl.1 sh.den (by decide) (by decide), _, rfl, _, _, rfl, rfl, ?_⟩
    refine ⟨_, _, rfl, rfl, wide_mul (a := 60) (b := 10) (mul_lt sl.1 sh.den) (by omega) (by decide) (by decide) (by decide), ?_⟩
    refine ⟨_, rfl, t, _, _, _, rfl, rfl, SqT.of ht, rfl, _, rfl, s, _, _, _, rfl, rfl, SqT.of hs, rfl, _, _, rfl, rfl, mul4 sh.1 sl.den (by decide) (by decide), _, rfl, _, _, rfl, rfl, wide_mul (a := 60) (b := 10) (mul_lt sh.1 sl.den) (by omega) (by decide) (by decide) (by decide), _, _, rfl, rfl, ?_⟩
    refine ⟨_, rfl, _, rfl, s, _, _, _, rfl, rfl, SqT.of hs, rfl, _, _, rfl, rfl, wide_mul (a := 10) (b := 30) (by decide) (by rw [Int.natAbs_natCast]; exact sl.den) (by decide) (by decide) (by decide), ?_⟩
    have b4 : (4 * (lo.den : Int)).natAbs < 2 ^ 40 := by
      have := sl.den
      omega
    refine ⟨_, rfl, t, _, _, _, rfl, rfl, SqT.of ht, rfl, _, _, rfl, rfl, wide_mul (a := 40) (b := 30) b4 (by rw [Int.natAbs_natCast]; exact sh.den) (by decide) (by decide) (by decide), ?_⟩
    refine ⟨_, _, rfl, Int.mul_pos (by omega) (by omega), ?_, fun p H' k' np e => go p H' k' np e⟩
    exact Nat.lt_of_lt_of_le (mul_lt b4 (Nat.lt_of_lt_of_le sh.den (Nat.pow_le_pow_right (by decide) (by decide : 30 ≤ 40)))) (Nat.pow_le_pow_right (by decide) (by decide))
end
end K18
set_option maxHeartbeats 4000000
namespace K18
open PySem PySem.Spec PyProof.Rows L2 GL StX
theorem off_kp {H H' : Hp} {p : Addr} (k : ∀ b o, H b = some o → b ≠ p → H' b = some o) : Same (off H p) H' := fun b o e => k b o (off_some e).2 (off_some e).1
theorem Rng.same' {H H' : Hp} {p : Addr} (R : Rng H p) (k : Same H H') : Rng H' p := by
  obtain ⟨x, y, e, r⟩ := R
  exact ⟨x, y, k _ _ e, r⟩
theorem Rng.ne_new' {H : Hp} {p l : Addr} (R : Rng H p) (n : H l = none) : l ≠ p := by
  obtain ⟨x, y, e, _⟩ := R
  rintro rfl
  rw [n] at e
  cases e
section
variable {P : Program} {w : World} {K : PySem.W.Frag} {mg : Str → Option Value} {base : Heap}
end
end K18
set_option maxHeartbeats 4000000
namespace K18
open PySem PySem.Spec PyProof.Rows L2 GL StX
/-! ### what stands beside the drawing's state, without tables -/
def Zp (p : Addr) (H : Hp) : Hp := noT (off H p)
section
variable {p : Addr} {H0 H H' : Hp} {a b l : Addr} {o : HO} {L : List (Addr × HO)}
theorem Zp.mk (e : H b = some o) (n : b ≠ p) (t : ∀ ps, o ≠ .tbl ps) : Zp p H b = some o := noT_at (by rw [off_ne n]; exact e) t
theorem Zp.sm (e : Zp p H b = some o) : b ≠ p ∧ H b = some o ∧ ∀ ps, o ≠ .tbl ps :=
  ⟨(off_some (noT_some e).1).1, (off_some (noT_some e).1).2, (noT_some e).2⟩
theorem Zp.kp (k : ∀ b o, H b = some o → b ≠ p → H' b = some o) : Same (Zp p H) (Zp p H') := fun b o e => Zp.mk (k b o (Zp.sm e).2.1 (Zp.sm e).1) (Zp.sm e).1 (Zp.sm e).2.2
theorem Zp.same (k : Same H H') : Same (Zp p H) (Zp p H') := Zp.kp fun b o e _ => k b o e
theorem Zp.offs (k : Same (off H p) H') : Same (Zp p H) (Zp p H') := Zp.kp fun b o e n => k b o (by rw [off_ne n]; exact e)
theorem Zp.to (p : Addr) (H : Hp) : Same (Zp p H) H := fun b o e => (Zp.sm e).2.1
theorem Zp.ext (k : LamX.ExtN H H') : Same (Zp p H) H' := fun b o e => k b o (Zp.sm e).2.1 (Zp.sm e).2.2
/-- what has come about behind H0, with what is known of it -/
structure At (p : Addr) (H0 H : Hp) (L : List (Addr × HO)) : Prop where
  s : Same (off H0 p) H
  r : Rng H p
  f : ∀ (i : Nat) (x : Addr × HO), L[i]? = some x → Zp p H x.1 = some x.2
theorem At.nil (r : Rng H p) : At p H H [] := ⟨fun b o e => (off_some e).2, r, fun i x e => by cases e⟩
theorem At.same (A : At p H0 H L) (k : Same H H') : At p H0 H' L := ⟨fun b o e => k _ _ (A.s b o e), A.r.same' k, fun i x e => Zp.same k _ _ (A.f i x e)⟩
theorem At.kp (A : At p H0 H L) (k : ∀ b o, H b = some o → b ≠ p → H' b = some o) (R : Rng H' p) : At p H0 H' L := ⟨fun b o e => k _ _ (A.s b o e) (off_some e).1, R, fun i x e => Zp.kp k _ _ (A.f i x e)⟩
theorem At.offs (A : At p H0 H L) (k : Same (off H p) H') (R : Rng H' p) : At p H0 H' L := A.kp (fun b o e n => k b o (by rw [off_ne n]; exact e)) R
theorem At.add (A : At p H0 H L) (e : H a = some o) (n : a ≠ p) (t : ∀ ps, o ≠ .tbl ps) : At p H0 H ((a, o) :: L) := ⟨A.s, A.r, fun i x h => by
  match i, h with
  | 0, h =>
    cases h
    exact Zp.mk e n t
  | i + 1, h => exact A.f i x h⟩
theorem At.new (A : At p H0 H L) (n : H l = none) (t : ∀ ps, o ≠ .tbl ps) : At p H0 (upd H l o) ((l, o) :: L) := (A.same (same_new n)).add upd_same (A.r.ne_new' n) t
theorem At.head {x : Addr × HO} (A : At p H0 H (x :: L)) : At p H0 H [x] := ⟨A.s, A.r, fun i y e => by
  match i, e with
  | 0, e => exact A.f 0 y e⟩
theorem At.restart (A : At p H0 H L) : At p H H L := ⟨fun b o e => (off_some e).2, A.r, A.f⟩
theorem At.bare (A : At p H0 H L) : At p H0 H [] := ⟨A.s, A.r, fun i x e => by cases e⟩
theorem At.get {i : Nat} (A : At p H0 H L) (h : L[i]? = some (a, o)) : Zp p H a = some o := A.f i _ h
theorem At.at {i : Nat} (A : At p H0 H L) (h : L[i]? = some (a, o)) : H a = some o := (Zp.sm (A.f i _ h)).2.1
end
/-! ### conditions of plain values -/
/-- what is no Ratio -/
structure NoR (K : PySem.W.Frag) : Prop where
  n : PySem.W.kitOne K (.type "NoneType") (.ref (aR K)) = some false
  b : PySem.W.kitOne K (.type "bool") (.ref (aR K)) = some false
  s : PySem.W.kitOne K (.type "str") (.ref (aR K)) = some false
def plD (v : V) : Bool := match v with
  | .str s => decide (s.length ≤ 100) && ((Txt.split s ".").all (fun u => decide (u.length ≤ 1000)))
  | .non | .bl _ | .int _ => true
  | _ => false
def isNmV (v : V) : Bool := match v with
  | .str s => nameB s
  | _ => false
def sideV (v : V) : Bool := match v with
  | .str z => sideB z
  | _ => false
def numV (v : V) : Bool := match v with
  | .int _ => true
  | _ => false
section
variable {K : PySem.W.Frag} {H : Hp} {v : V}
theorem IsNm.pl (h : plD v = true) : IsNm K H v (isNmV v) := by
  cases v with
  | str s =>
    simp only [plD, Bool.and_eq_true, decide_eq_true_eq, List.all_eq_true] at h
    exact .inl ⟨s, rfl, h.1, h.2, rfl⟩
  | non => exact .inr ⟨rfl, _, .base .non, kit_ty (by decide +kernel)⟩
  | bl b => exact .inr ⟨rfl, _, .base (.bl b), kit_ty (by decide +kernel)⟩
  | int i => exact .inr ⟨rfl, _, .base (.int i), kit_ty (by decide +kernel)⟩
  | _ => cases h
theorem SideB.pl (h : plD v = true) : SideB K H v (sideV v) := by
  cases v with
  | str s => exact .inl ⟨s, rfl, rfl⟩
  | non => exact .inr ⟨rfl, _, .base .non, kit_ty (by decide +kernel)⟩
  | bl b => exact .inr ⟨rfl, _, .base (.bl b), kit_ty (by decide +kernel)⟩
  | int i => exact .inr ⟨rfl, _, .base (.int i), kit_ty (by decide +kernel)⟩
  | _ => cases h
theorem NumB.pl (N : NoR K) (h : plD v = true) : NumB K H v (numV v) := by
  cases v with
  | str s => exact .inr ⟨rfl, ⟨_, false, false, .base (.str s), kit_ty (by decide +kernel), (fun z => by cases z), rfl⟩, _, .base (.str s), N.s⟩
  | non => exact .inr ⟨rfl, ⟨_, false, false, .base .non, kit_ty (by decide +kernel), (fun z => by cases z), rfl⟩, _, .base .non, N.n⟩
  | bl b => exact .inr ⟨rfl, ⟨_, true, true, .base (.bl b), kit_ty (by decide +kernel), (fun _ => kit_ty (by decide +kernel)), rfl⟩, _, .base (.bl b), N.b⟩
  | int i => exact .inl ⟨rfl, _, .inl ⟨i, rfl, rfl⟩⟩
  | _ => cases h
theorem CondB.pl {c : Addr} {a b d : V} {r : Bool} (N : NoR K) (h : H c = some (.tup [a, b, d])) (e : (plD a && (plD b && plD d)) = true) (e2 : (isNmV a && (sideV b && numV d)) = r) : CondB K H (.ref c) r := by
  simp only [Bool.and_eq_true] at e
  exact .inr ⟨c, _, rfl, h, .inr ⟨_, _, _, _, _, _, rfl, .pl e.1, .pl e.2.1, .pl N e.2.2, e2.symm⟩⟩
theorem CondB.len {c : Addr} {xs : List V} (h : H c = some (.tup xs)) (n : (decide (xs.length = 3) || decide (100 < xs.length)) = false) : CondB K H (.ref c) false := by
  simp only [Bool.or_eq_false_iff, decide_eq_false_iff_not, Nat.not_lt] at n
  exact .inr ⟨c, xs, rfl, h, .inl ⟨rfl, n.1, n.2⟩⟩
end
end K18
set_option maxHeartbeats 4000000
namespace K18
open PySem PySem.Spec PyProof.Rows L2 GL StX
section
variable {K : PySem.W.Frag}
end
section
variable {p : Addr} {H0 H H1 : Hp} {d : Addr} {o0 o : HO} {L : List (Addr × HO)}
/-- a thing that is made, and then written -/
theorem At.put (A : At p H0 H L) (n : H d = none) (k : Same (upd H d o0) H1) (t : ∀ ps, o ≠ .tbl ps) : At p H0 (upd H1 d o) ((d, o) :: L) := by
  have up : Same H (upd H1 d o) := fun b o' e => by
    rw [upd_ne (ne_of_none e n)]
    exact k b o' (by rw [upd_ne (ne_of_none e n)]; exact e)
  exact (A.same up).add upd_same (A.r.ne_new' n) t
theorem At.drop (n : Nat) (A : At p H0 H L) : At p H0 H (L.drop n) := ⟨A.s, A.r, fun i x e => A.f (n + i) x (by rw [List.getElem?_drop] at e; exact e)⟩
theorem At.trans {L' : List (Addr × HO)} (A : At p H0 H L) (B : At p H H1 L') : At p H0 H1 L' := ⟨fun b o e => B.s b o (by rw [off_ne (off_some e).1]; exact A.s b o e), B.r, B.f⟩
end
end K18
set_option maxHeartbeats 4000000
namespace K18
open PySem PySem.Spec PyProof.Rows L2 GL
theorem Rng.ne {H : Hp} {p t : Addr} {xs : List V} (R : Rng H p) (e : H t = some (.tup xs)) : t ≠ p := by
  obtain ⟨x, y, ep, _⟩ := R
  rintro rfl
  rw [e] at ep
  cases ep
/-! ### where a number between two stands -/
theorem le_of_cross {q r : Rat} (h : rBelow r q = false) : q.num * (r.den : Int) ≤ r.num * (q.den : Int) := by
  unfold rBelow at h
  have z := of_decide_eq_false h
  omega
theorem divInt_le {a c b : Int} (hb : 0 < b) (h : a ≤ c) : rBelow (Rat.divInt c b) (Rat.divInt a b) = false := by
  have part : ∀ t : Int, ∃ g : Int, 0 < g ∧ (Rat.divInt t b).num * g = t ∧ ((Rat.divInt t b).den : Int) * g = b := by
    intro t
    have N := pos_norm (t := t) hb
    have gp : 0 < t.natAbs.gcd b.natAbs := Nat.gcd_pos_of_pos_right _ (Int.natAbs_pos.mpr (by omega))
    refine ⟨(t.natAbs.gcd b.natAbs : Int), by omega, ?_, ?_⟩
    · rw [← N.1]
      exact Int.fdiv_mul_cancel (Int.dvd_natAbs.mp (Int.natCast_dvd_natCast.mpr (Nat.gcd_dvd_left _ _)))
    · rw [← N.2]
      exact Int.fdiv_mul_cancel (Int.dvd_natAbs.mp (Int.natCast_dvd_natCast.mpr (Nat.gcd_dvd_right _ _)))
  obtain ⟨g, g0, n1, d1⟩ := part a
  obtain ⟨g', g0', n2, d2⟩ := part c
  unfold rBelow
  refine decide_eq_false (Int.not_lt.mpr ?_)
  refine Int.le_of_mul_le_mul_right (a := g * g') ?_ (Int.mul_pos g0 g0')
  have e1 : (Rat.divInt a b).num * ((Rat.divInt c b).den : Int) * (g * g') = a * b := by
    rw [← n1, ← d2]
    simp only [n1, d2]
    rw [Int.mul_assoc, Int.mul_left_comm ((Rat.divInt c b).den : Int), ← Int.mul_assoc, n1, d2]
  have e2 : (Rat.divInt c b).num * ((Rat.divInt a b).den : Int) * (g * g') = c * b := by
    rw [Int.mul_comm g g', Int.mul_assoc, Int.mul_left_comm ((Rat.divInt a b).den : Int), ← Int.mul_assoc, n2, d1]
  rw [e1, e2]
  exact Int.mul_le_mul_of_nonneg_right h (by omega)
theorem betw_mono {lo hi : Rat} {i j : Int} (le : rBelow hi lo = false) (h : i ≤ j) : rBelow (betw lo hi j) (betw lo hi i) = false := by
  unfold betw
  refine divInt_le (Int.mul_pos (Int.mul_pos (by decide) (Int.natCast_pos.mpr lo.den_pos)) (Int.natCast_pos.mpr hi.den_pos)) ?_
  have c := le_of_cross le
  unfold bTop
  have a := Int.mul_le_mul_of_nonneg_right h (Int.sub_nonneg.mpr c)
  generalize lo.num * (hi.den : Int) = X at *
  generalize hi.num * (lo.den : Int) = Y at *
  rw [Int.mul_sub, Int.mul_sub] at a
  rw [Int.mul_sub, Int.mul_sub, Int.mul_comm Y, Int.mul_comm Y, Int.mul_comm X i, Int.mul_comm X j]
  omega
theorem betw_sz {lo hi : Rat} {k : Int} (sl : Sz 30 lo) (sh : Sz 30 hi) (k0 : -8 ≤ k) (k1 : k ≤ 8) : Sz 80 (betw lo hi k) := by
  have dl : 0 < lo.den := lo.den_pos
  have dh : 0 < hi.den := hi.den_pos
  unfold betw
  refine divInt_sz (Int.ne_of_gt (Int.mul_pos (by omega) (by omega))) ?_ ?_
  · unfold bTop
    have a : (lo.num * (hi.den : Int) * (4 - k)).natAbs < 2 ^ (60 + 10) := mul_lt (mul_lt sl.1 sh.den) (by omega)
    have b : (hi.num * (lo.den : Int) * k).natAbs < 2 ^ (60 + 10) := mul_lt (mul_lt sh.1 sl.den) (by omega)
    have c := Int.natAbs_add_le (lo.num * (hi.den : Int) * (4 - k)) (hi.num * (lo.den : Int) * k)
    have d : 2 ^ (60 + 10) + 2 ^ (60 + 10) ≤ 2 ^ 80 := by decide +kernel
    omega
  · have b4 : (4 * (lo.den : Int)).natAbs < 2 ^ 40 := by
      have := sl.den
      omega
    exact Nat.lt_of_lt_of_le (mul_lt b4 sh.den) (Nat.pow_le_pow_right (by decide) (by decide))
section
variable {p : Addr} {K : PySem.W.Frag} {H H' : Hp}
theorem Rng.zp_ins (R : Rng H p) {b C dx : Addr} {fs : List (Str × V)} (e : H b = some (.ins C dx fs)) : Zp p H b = some (.ins C dx fs) := by
  obtain ⟨x, y, ep, _⟩ := R
  exact Zp.mk e (fun z => by rw [z, ep] at e; cases e) (fun _ z => by cases z)
theorem Rng.zp_tup (R : Rng H p) {b : Addr} {xs : List V} (e : H b = some (.tup xs)) : Zp p H b = some (.tup xs) := Zp.mk e (R.ne e) (fun _ z => by cases z)
theorem Rng.zp_dK (R : Rng H p) {b : Addr} {kvs : List (Key × V)} (e : H b = some (.dK kvs)) : Zp p H b = some (.dK kvs) := by
  obtain ⟨x, y, ep, _⟩ := R
  exact Zp.mk e (fun z => by rw [z, ep] at e; cases e) (fun _ z => by cases z)
theorem RatAt.zp {a : Addr} {q : Rat} (h : RatAt K H a q) (R : Rng H p) : RatAt K (Zp p H) a q := by
  obtain ⟨d, e⟩ := h
  exact ⟨d, R.zp_ins e⟩
theorem NumAt.zp {x : V} {q : Rat} (h : NumAt K H x q) (R : Rng H p) : NumAt K (Zp p H) x q := by
  rcases h with h | ⟨a, e, h⟩
  · exact .inl h
  · exact .inr ⟨a, e, h.zp R⟩
theorem MovD.zp {a : Addr} {m : Mvd} (h : MovD K H a m) (R : Rng H p) : MovD K (Zp p H) a m := h.keep fun b C dx fs e => R.zp_ins e
theorem MvsAt.zp {kvs : List (Key × V)} {ms : List (Str × Mvd)} (h : MvsAt K H kvs ms) (R : Rng H p) : MvsAt K (Zp p H) kvs ms := h.keep fun a m h => h.zp R
theorem RuleM.zp {s : Addr} {g a : Str} {rows : List (Str × Str × Rat)} {ms : List (Str × Mvd)} (h : RuleM K H s g a rows ms) (R : Rng H p) : RuleM K (Zp p H) s g a rows ms := by
  obtain ⟨kvs, ⟨dx, tw, md, e, ⟨ys, hy, r⟩, hm⟩, m⟩ := h
  exact ⟨kvs, ⟨dx, tw, md, R.zp_ins e, ⟨ys, R.zp_tup hy, r.keep (fun a xs e => R.zp_tup e) fun a q h => h.zp R⟩, R.zp_dK hm⟩, m.zp R⟩
end
section
variable {P : Program} {w : World} {K : PySem.W.Frag} {mg : Str → Option Value} {base : Heap}
/-! ### as a number of the program's, or Python's own -/
def spGiven (K : PySem.W.Frag) : Sp := fun vs H Q _ => ∃ (p t : Addr) (q : Rat), vs = [.ref p, .ref t] ∧ Rng H p ∧ PartAt H t q ∧ Sz 1000 q ∧ ∀ x H', Same (off H p) H' → Rng H' p → NumAt K H' x q → Q x H'
theorem scGiven : FnScope ["_law_pot_here", "_law_pair"] ["_law_pot_here", "_law_pair"] (defScope sGiven) := ⟨rfl, rfl, rfl, by decide +kernel, rfl, by decide +kernel, by decide +kernel⟩
theorem ok_given {f : Addr} {fd : FuncData} (F : Fun K "_law_given" "_law_given" sGiven f fd) (dr : DefF P w K mg base "_law_draw" 1 ["_law_pot_here", "_law_many"] spDraw) (G : RG P w K mg base) : FnOk P w K mg base CX0 4 f fd ["_law_pot_here", "_law_pair"] (spGiven K) := by
  obtain ⟨fD, fdD, GD, gD, bD, kD⟩ := dr
  obtain ⟨fR, fdR, dd, MR, GR, vd, bR, bR0⟩ := G.mR
  have T := G.T
  refine F.ok scGiven (fun vs H Q E h => ?_) (fun cdv A outer s H vs Q E hr h => ?_)
  · obtain ⟨p, t, q, rfl, _⟩ := h
    rfl
  · obtain ⟨p, t, q, rfl, R, ht, sq, k⟩ := h
    refine ⟨_, pss_one (ps_ret (pe_ifExp (PW.pt (pw_and (pt_cmpR op_eq (pe_ix ix_tup (pv 1) pe_int (fun _ _ => rfl)) pe_int (nomark _)) (pw_and1 (pt_cmpR op_eq (pe_call GD (hr.mono (by decide)) rfl gD kD bD .nil pass0 (pa_cons (pv 0) (pa_cons pe_int pa_nil))) pe_int (nomark _)))))
      (pe_ix ix_tup (pv 1) pe_int (fun _ _ => rfl))
      (pe_make MR GR hr rfl T.gR bR0 .nil pass0 (pa_cons (pe_ix ix_tup (pv 1) pe_int (fun _ _ => rfl)) (pa_cons (pe_ix ix_tup (pv 1) pe_int (fun _ _ => rfl)) pa_nil))))), ?_⟩
    have tp_ : t ≠ p := R.ne ht
    have made : ∀ (H1 : Hp), Same (off H p) H1 → Rng H1 p → ∀ x dx, H1 x = none → H1 dx = none → dx ≠ x → spRInit K [.ref x, .int q.num, .int (q.den : Int)] (upd (upd H1 dx (.own x)) x (.ins (aR K) dx [])) (fun v H2 => v = .non ∧ Q (.ref x) H2) E := by
      intro H1 k1 R1 x dx hx hd ne
      refine made_rat hx hd ne (den_ne q) (Nat.lt_of_lt_of_le sq.den (Nat.pow_le_pow_right (by decide) (by decide))) fun a H2 k2 _ ha => ?_
      rw [Rat.num_divInt_den] at ha
      exact k (.ref a) H2 (fun b o e => k2 b o (k1 b o e)) (R1.same' k2) (.inr ⟨a, rfl, ha⟩)
    refine ⟨_, rfl, t, _, _, _, rfl, rfl, SqT.of ht, rfl, rfl, _, rfl, ?_⟩
    refine ite2 (fun c => ?_) (fun c => ?_)
    · have c1 : (q.den : Int) = 1 := by
        have z := of_decide_eq_true c
        injection z
      refine ⟨_, rfl, p, 2, rfl, R, by decide, by decide, fun d H1 d0 d1 k1 R1 => ⟨rfl, _, rfl, ?_⟩⟩
      have o1 := off_kp k1
      have ht1 := k1 t _ ht tp_
      refine ite2 (fun c2 => ?_) (fun c2 => ?_)
      · refine ⟨_, rfl, t, _, _, _, rfl, rfl, SqT.of ht1, rfl, k _ H1 o1 R1 (.inl ⟨q.num, rfl, ?_⟩)⟩
        refine Rat.ext ?_ ?_
        · rw [Rat.num_intCast]
        · rw [Rat.den_intCast]
          omega
      · refine ⟨_, rfl, t, _, _, _, rfl, rfl, SqT.of ht1, rfl, _, rfl, t, _, _, _, rfl, rfl, SqT.of ht1, rfl, ?_⟩
        exact made H1 o1 R1
    · refine ⟨_, rfl, t, _, _, _, rfl, rfl, SqT.of ht, rfl, _, rfl, t, _, _, _, rfl, rfl, SqT.of ht, rfl, ?_⟩
      exact made H (fun b o e => (off_some e).2) R
end
end K18
set_option maxHeartbeats 4000000
namespace K18
open PySem PySem.Spec PyProof.Rows L2 GL
abbrev sSpans : Stmt := tp 53
abbrev Spd : Type := List (Str × Rat × Rat)
/-- ranges by levels: a dict's entries -/
def SpsAt (H : Hp) : List (Key × V) → Spd → Prop
  | [], [] => True
  | (k, v) :: r, (n, lo, hi) :: t => k = Sum.inr n ∧ (∃ c a b, v = .ref c ∧ H c = some (.tup [.ref a, .ref b]) ∧ PartAt H a lo ∧ PartAt H b hi) ∧ SpsAt H r t
  | _, _ => False
theorem SpsAt.keep {H H' : Hp} (k : ∀ b xs, H b = some (.tup xs) → H' b = some (.tup xs)) : ∀ {kvs : List (Key × V)} {sp : Spd}, SpsAt H kvs sp → SpsAt H' kvs sp
  | [], [], _ => trivial
  | (_, _) :: _, (_, _, _) :: _, ⟨e, ⟨c, a, b, ev, hc, ha, hb⟩, t⟩ => ⟨e, ⟨c, a, b, ev, k _ _ hc, k _ _ ha, k _ _ hb⟩, t.keep k⟩
  | [], _ :: _, h => h.elim
  | _ :: _, [], h => h.elim
theorem SpsAt.same {H H' : Hp} (k : Same H H') {kvs : List (Key × V)} {sp : Spd} (h : SpsAt H kvs sp) : SpsAt H' kvs sp := h.keep fun b xs e => k _ _ e
theorem SpsAt.len {H : Hp} : ∀ {kvs : List (Key × V)} {sp : Spd}, SpsAt H kvs sp → kvs.length = sp.length
  | [], [], _ => rfl
  | (_, _) :: _, (_, _, _) :: _, ⟨_, _, t⟩ => by rw [List.length_cons, List.length_cons, t.len]
  | [], _ :: _, h => h.elim
  | _ :: _, [], h => h.elim
theorem SpsAt.keys {H : Hp} : ∀ {kvs : List (Key × V)} {sp : Spd}, SpsAt H kvs sp → kvs.map (·.1) = (sp.map (·.1)).map Sum.inr
  | [], [], _ => rfl
  | (_, _) :: _, (_, _, _) :: _, ⟨e, _, t⟩ => by simp only [List.map_cons, t.keys, e]
  | [], _ :: _, h => h.elim
  | _ :: _, [], h => h.elim
theorem SpsAt.snoc {H : Hp} {n : Str} {lo hi : Rat} {c a b : Addr} (hc : H c = some (.tup [.ref a, .ref b])) (ha : PartAt H a lo) (hb : PartAt H b hi) : ∀ {kvs : List (Key × V)} {sp : Spd}, SpsAt H kvs sp → SpsAt H (kvs ++ [(Sum.inr n, .ref c)]) (sp ++ [(n, lo, hi)])
  | [], [], _ => ⟨rfl, ⟨c, a, b, rfl, hc, ha, hb⟩, trivial⟩
  | (_, _) :: _, (_, _, _) :: _, ⟨e, x, t⟩ => ⟨e, x, t.snoc hc ha hb⟩
  | [], _ :: _, h => h.elim
  | _ :: _, [], h => h.elim
theorem SpsAt.look {H : Hp} {u : Str} : ∀ {kvs : List (Key × V)} {sp : Spd}, SpsAt H kvs sp → u ∈ sp.map (·.1) → ∃ lo hi c a b, (u, lo, hi) ∈ sp ∧ sp.lookup u = some (lo, hi) ∧ valV kvs (Sum.inr u) = some (.ref c) ∧ H c = some (.tup [.ref a, .ref b]) ∧ PartAt H a lo ∧ PartAt H b hi
  | [], [], _, hu => by cases hu
  | (k, v) :: r, (n, lo, hi) :: t, ⟨e, ⟨c, a, b, ev, hc, ha, hb⟩, tl⟩, hu => by
    subst e
    subst ev
    by_cases q : u = n
    · subst q
      exact ⟨lo, hi, c, a, b, List.mem_cons_self, by simp [List.lookup], by simp [valV], hc, ha, hb⟩
    · have q2 : ¬ n = u := fun z => q z.symm
      have hu2 : u ∈ t.map (·.1) := by
        rw [List.map_cons] at hu
        rcases List.mem_cons.mp hu with z | z
        · exact absurd z q
        · exact z
      obtain ⟨lo', hi', c', a', b', m, e1, e2, r1, r2, r3⟩ := tl.look hu2
      have b1 : (u == n) = false := beq_eq_false_iff_ne.mpr q
      exact ⟨lo', hi', c', a', b', List.mem_cons_of_mem _ m, by simp [List.lookup, b1, e1], by simpa [valV, q2] using e2, r1, r2, r3⟩
  | [], _ :: _, h, _ => h.elim
  | _ :: _, [], h, _ => h.elim
def names3 : List Str := ["x", "load", "m.n"]
/-- ranges that are right -/
structure SpOk (sp : Spd) : Prop where
  nm : sp.map (·.1) = names3.take sp.length
  l3 : sp.length ≤ 3
  ok : ∀ x ∈ sp, Sz 30 x.2.1 ∧ Sz 30 x.2.2 ∧ rBelow x.2.2 x.2.1 = false
theorem SpOk.mem {sp : Spd} (h : SpOk sp) : ∀ n ∈ sp.map (·.1), n ∈ names3 := fun n hn => by
  rw [h.nm] at hn
  exact List.mem_of_mem_take hn
theorem SpOk.nd {sp : Spd} (h : SpOk sp) : (sp.map (·.1)).Nodup := by
  rw [h.nm]
  exact (List.take_sublist _ _).nodup (by decide +kernel)
def SpansAt (H : Hp) (D : Addr) (sp : Spd) : Prop := ∃ kvs, Rd H D (.dK kvs) ∧ SpsAt H kvs sp ∧ SpOk sp
theorem rd_same {H H' : Hp} {a : Addr} {o : HO} (h : Rd H a o) (k : Same H H') : Rd H' a o := by
  rcases h with h | ⟨o', h⟩
  · exact .inl (k _ _ h)
  · exact .inr ⟨o', k _ _ h⟩
theorem SpansAt.same {H H' : Hp} {D : Addr} {sp : Spd} (h : SpansAt H D sp) (k : Same H H') : SpansAt H' D sp := by
  obtain ⟨kvs, e, s, ok⟩ := h
  exact ⟨kvs, rd_same e k, s.same k, ok⟩
theorem At.updN {p : Addr} {H0 H : Hp} {L : List (Addr × HO)} {D : Addr} {o : HO} (A : At p H0 H L) (n : off H0 p D = none) (Dp : D ≠ p) (no : ∀ x ∈ L, x.1 ≠ D) : At p H0 (upd H D o) L := ⟨fun b o' e => by
  rw [upd_ne (fun z => by rw [z, n] at e; cases e)]
  exact A.s _ _ e, by
    obtain ⟨x, y, e, r⟩ := A.r
    exact ⟨x, y, by rw [upd_ne Dp.symm]; exact e, r⟩, fun i x e => by
    have z := Zp.sm (A.f i x e)
    exact Zp.mk (by rw [upd_ne (no x (List.mem_of_getElem? e))]; exact z.2.1) z.1 z.2.2⟩
theorem part_of {H : Hp} {c : Addr} {n d : Int} {q : Rat} (e : H c = some (.tup [.int n, .int d])) (hn : q.num = n) (hd : (q.den : Int) = d) : PartAt H c q := by
  unfold PartAt
  rw [hn, hd]
  exact e
theorem names3_new {i : Nat} {u : Str} (h : names3[i]? = some u) : u ∉ names3.take i := by
  match i, h with
  | 0, _ => exact fun z => by cases z
  | 1, h =>
    cases h
    decide +kernel
  | 2, h =>
    cases h
    decide +kernel
  | i + 3, h => cases h
theorem putK_new {kvs : List (Key × V)} {k : Key} {v : V} (h : k ∉ kvs.map (·.1)) : putK kvs k v = kvs ++ [(k, v)] := by
  unfold putK
  rw [if_neg]
  intro z
  obtain ⟨x, hx, e⟩ := List.any_eq_true.mp z
  exact h (List.mem_map.mpr ⟨x, hx, of_decide_eq_true e⟩)
/-! ### the ranges -/
def lows : List Rat := [0, ((-4 : Int) : Rat), Rat.divInt 1 2]
def wides : List Rat := [((16 : Int) : Rat), Rat.divInt 9 2, 0]
def spanB (q r : Rat) : Bool := decide (q.num.natAbs < 2 ^ 30 ∧ q.den < 2 ^ 30) && (decide (r.num.natAbs < 2 ^ 30 ∧ r.den < 2 ^ 30) && (decide ((rAdd q r).num.natAbs < 2 ^ 30 ∧ (rAdd q r).den < 2 ^ 30) && !(rBelow (rAdd q r) q)))
theorem span_all : (lows.all fun q => wides.all fun r => spanB q r) = true := by decide +kernel
theorem span_ok {q r : Rat} (hq : q ∈ lows) (hr : r ∈ wides) : Sz 30 q ∧ Sz 30 r ∧ Sz 30 (rAdd q r) ∧ rBelow (rAdd q r) q = false := by
  have z := List.all_eq_true.mp (List.all_eq_true.mp span_all q hq) r hr
  unfold spanB at z
  simp only [Bool.and_eq_true, decide_eq_true_eq, Bool.not_eq_true'] at z
  exact ⟨z.1, z.2.1, z.2.2.1, z.2.2.2⟩
section
variable {P : Program} {w : World} {K : PySem.W.Frag} {mg : Str → Option Value} {base : Heap}
theorem sz1000 {n : Nat} {q : Rat} (h : Sz n q) (l : n ≤ 1000) : Sz 1000 q := h.mono l
def spSpans (K : PySem.W.Frag) : Sp := fun vs H Q _ => ∃ p : Addr, vs = [.ref p] ∧ Rng H p ∧ ∀ D kvs sp H', Same (off H p) H' → Rng H' p → D ≠ p → H' D = some (.dK kvs) → SpsAt (Zp p H') kvs sp → SpOk sp → Q (.ref D) H'
abbrev nSpans : List Str := ["_law_pot_here", "_law_found", "_law_name_now", "_law_low", "_law_wide"]
theorem scSpans : FnScope nSpans ["_law_pot_here"] (defScope sSpans) := ⟨rfl, rfl, rfl, by decide +kernel, rfl, by decide +kernel, by decide +kernel⟩
theorem cut3 {d : Nat} (h : d < 4) : cutV (names3.map V.str) none (some (d : Int)) = (names3.take d).map V.str := by
  match d, h with
  | 0, _ => rfl
  | 1, _ => rfl
  | 2, _ => rfl
  | 3, _ => rfl
theorem ok_spans {f : Addr} {fd : FuncData} (F : Fun K "_law_spans" "_law_spans" sSpans f fd) (dr : DefF P w K mg base "_law_draw" 1 ["_law_pot_here", "_law_many"] spDraw) (pk : DefF P w K mg base "_law_pick" 2 ["_law_pot_here", "_law_some"] (spChoice K)) (lw : DefF P w K mg base "_law_lowest" 1 ["_law_top", "_law_bottom"] (spLowest K)) : FnOk P w K mg base CX0 3 f fd ["_law_pot_here"] (spSpans K) := by
  obtain ⟨fC, fdC, GC_, gC, bC, kC⟩ := pk
  obtain ⟨fD, fdD, GD, gD, bD, kD⟩ := dr
  obtain ⟨fL, fdL, GL_, gL, bL, kL⟩ := lw
  refine F.ok scSpans (fun vs H Q E h => ?_) (fun cdv A outer s H vs Q E hr h => ?_)
  · obtain ⟨p, rfl, _⟩ := h
    rfl
  · obtain ⟨p, rfl, R, k⟩ := h
    have hu := hr.units
    have hu1 : (A.deeper (envOfC "_law_spans" (defScope sSpans) s.heap.objs.size f cdv)).units + 1 < cLine := by omega
    refine ⟨_, pss_cons (ps_set (i := 1) scSpans.nd rfl (Or.inl rfl) pe_dnewK)
      (pss_cons (ps_for PassesOwn.never rfl (pi_list (pe_slice sl_list (pe_lst (pa_cons pe_str (pa_cons pe_str (pa_cons pe_str pa_nil)))) po_none (po_some (pe_call GD (hr.mono (by decide)) rfl gD kD bD .nil pass0 (pa_cons (pv 0) (pa_cons pe_int pa_nil)))))) (pg_name (i := 2) scSpans.nd rfl (Or.inl rfl))
        (pss_cons (ps_set (i := 3) scSpans.nd rfl (Or.inl rfl) (pe_call GC_ hr rfl gC kC bC .nil pass0 (pa_cons (pv 0) (pa_cons (pe_lst (pa_cons (pe_tup (pa_cons pe_int (pa_cons pe_int pa_nil))) (pa_cons (pe_tup (pa_cons pe_int (pa_cons pe_int pa_nil))) (pa_cons (pe_tup (pa_cons (pe_un un_neg pe_int) (pa_cons pe_int pa_nil))) (pa_cons (pe_tup (pa_cons pe_int (pa_cons pe_int pa_nil))) pa_nil))))) pa_nil))))
        (pss_cons (ps_set (i := 4) scSpans.nd rfl (Or.inl rfl) (pe_call GC_ hr rfl gC kC bC .nil pass0 (pa_cons (pv 0) (pa_cons (pe_lst (pa_cons (pe_tup (pa_cons pe_int (pa_cons pe_int pa_nil))) (pa_cons (pe_tup (pa_cons pe_int (pa_cons pe_int pa_nil))) (pa_cons (pe_tup (pa_cons pe_int (pa_cons pe_int pa_nil))) pa_nil)))) pa_nil))))
        (pss_one (ps_dput hu1 (pv 1) (pv 2) (pe_tup (pa_cons (pv 3) (pa_cons (pe_call GL_ (hr.mono (by decide)) rfl gL kL bL .nil pass0 (pa_cons (pe_op op_add (pe_op op_mulW (pe_ix ix_tup (pv 3) pe_int (fun _ _ => rfl)) (pe_ix ix_tup (pv 4) pe_int (fun _ _ => rfl))) (pe_op op_mulW (pe_ix ix_tup (pv 4) pe_int (fun _ _ => rfl)) (pe_ix ix_tup (pv 3) pe_int (fun _ _ => rfl)))) (pa_cons (pe_op op_mulW (pe_ix ix_tup (pv 3) pe_int (fun _ _ => rfl)) (pe_ix ix_tup (pv 4) pe_int (fun _ _ => rfl))) pa_nil))) pa_nil))) rfl)))))
      (pss_one (ps_ret (pv 1)))), ?_⟩
    intro D nD
    have uD := same_new (o := .dK []) nD
    have hD0 : upd H D (.dK []) D = some (.dK []) := upd_same
    have Dp := R.ne_new' nD
    have nO : off H p D = none := by rw [off_ne Dp]; exact nD
    have A0 := (At.nil R).same uD
    generalize upd H D (.dK []) = H1 at A0 hD0 ⊢
    refine ⟨(by show 3 ≤ sizeLine; decide), fun l0 n0 => ?_⟩
    have A1 := A0.new (o := .lst [V.str "x", .str "load", .str "m.n"]) n0 (fun _ z => by cases z)
    have hD1 := (same_new (o := .lst [V.str "x", .str "load", .str "m.n"]) n0) _ _ hD0
    generalize upd H1 l0 (.lst [V.str "x", .str "load", .str "m.n"]) = H2 at A1 hD1 ⊢
    refine ⟨_, rfl, p, 4, rfl, A1.r, by decide, by decide, fun d H3 d0 d1 kp R3 => ?_⟩
    obtain ⟨j, rfl⟩ : ∃ j : Nat, d = (j : Int) := ⟨d.toNat, by omega⟩
    have hj : j < 4 := by omega
    have A2 := A1.kp kp R3
    have hD2 := kp _ _ hD1 Dp
    refine ⟨_, rfl, l0, _, rfl, SqL.of (A2.at (i := 0) rfl), fun l nl => ?_⟩
    rw [show cutV [V.str "x", .str "load", .str "m.n"] none (some (j : Int)) = (names3.take j).map V.str from cut3 hj]
    have lD : l ≠ D := (ne_of_none hD2 nl).symm
    have A3 := (A2.new (o := .lst ((names3.take j).map V.str)) nl (fun _ z => by cases z)).head
    have hD3 := (same_new (o := .lst ((names3.take j).map V.str)) nl) _ _ hD2
    generalize upd H3 l (.lst ((names3.take j).map V.str)) = H4 at A3 hD3 ⊢
    refine ⟨l, rfl, ⟨_, SqL.of (A3.at (i := 0) rfl)⟩, ?_⟩
    refine for_it walk_list (fun i z G => At p H G [(l, .lst ((names3.take j).map V.str))] ∧ ∃ kvs sp v2 v3 v4, z = [some (.ref p), some (.ref D), v2, v3, v4] ∧ G D = some (.dK kvs) ∧ SpsAt (Zp p G) kvs sp ∧ SpOk sp ∧ sp.length = i) ⟨A3, [], [], _, _, _, rfl, hD3, trivial, ⟨rfl, by decide, fun x hx => by cases hx⟩, rfl⟩ (fun i z G _ h => SqL.of (h.1.at (i := 0) rfl)) ?_ ?_
    · rintro i y z G G0 hi ⟨A2, kvs, sp, v2, v3, v4, rfl, hD, sps, ok, li⟩ ⟨rfl, e2⟩
      rw [List.getElem?_map] at e2
      obtain ⟨u, hu2, rfl⟩ := Option.map_eq_some_iff.mp e2
      have hu3 : names3[i]? = some u := by
        rw [List.getElem?_take] at hu2
        split at hu2
        · exact hu2
        · cases hu2
      have Ar := A2.restart
      refine ⟨_, rfl, ?_⟩
      refine ⟨(by show 2 ≤ sizeLine; decide), fun l11 n11 => ?_⟩
      have A11 := Ar.new (o := .tup [V.int 0, .int 1]) n11 (fun _ z => by cases z)
      generalize upd G0 l11 (.tup [V.int 0, .int 1]) = H11 at A11 ⊢
      refine ⟨(by show 2 ≤ sizeLine; decide), fun l12 n12 => ?_⟩
      have A12 := A11.new (o := .tup [V.int 0, .int 1]) n12 (fun _ z => by cases z)
      generalize upd H11 l12 (.tup [V.int 0, .int 1]) = H12 at A12 ⊢
      refine ⟨_, rfl, ?_⟩
      refine ⟨(by show 2 ≤ sizeLine; decide), fun l13 n13 => ?_⟩
      have A13 := A12.new (o := .tup [V.int (-4), .int 1]) n13 (fun _ z => by cases z)
      generalize upd H12 l13 (.tup [V.int (-4), .int 1]) = H13 at A13 ⊢
      refine ⟨(by show 2 ≤ sizeLine; decide), fun l14 n14 => ?_⟩
      have A14 := A13.new (o := .tup [V.int 1, .int 2]) n14 (fun _ z => by cases z)
      generalize upd H13 l14 (.tup [V.int 1, .int 2]) = H14 at A14 ⊢
      refine ⟨(by show 4 ≤ sizeLine; decide), fun l15 n15 => ?_⟩
      have A15 := A14.new (o := .lst [V.ref l11, .ref l12, .ref l13, .ref l14]) n15 (fun _ z => by cases z)
      generalize upd H14 l15 (.lst [V.ref l11, .ref l12, .ref l13, .ref l14]) = H15 at A15 ⊢
      refine ⟨p, l15, _, rfl, A15.r, (A15.at (i := 0) rfl), (Zp.sm (A15.get (i := 0) rfl)).1, by show 0 < 4; decide, by show 4 < 1000; decide, fun v G1 mv kp1 R1 => ?_⟩
      obtain ⟨c3, lo, rfl, mlo, hlo⟩ : ∃ c lo, v = .ref c ∧ lo ∈ lows ∧ PartAt (Zp p H15) c lo := by
        simp only [List.mem_cons, List.not_mem_nil, or_false] at mv
        rcases mv with rfl | rfl | rfl | rfl
        · exact ⟨_, 0, rfl, by decide +kernel, part_of (A15.get (i := 4) rfl) (by decide +kernel) (by decide +kernel)⟩
        · exact ⟨_, 0, rfl, by decide +kernel, part_of (A15.get (i := 3) rfl) (by decide +kernel) (by decide +kernel)⟩
        · exact ⟨_, ((-4 : Int) : Rat), rfl, by decide +kernel, part_of (A15.get (i := 2) rfl) (by decide +kernel) (by decide +kernel)⟩
        · exact ⟨_, Rat.divInt 1 2, rfl, by decide +kernel, part_of (A15.get (i := 1) rfl) (by decide +kernel) (by decide +kernel)⟩
      have hlo1 := hlo.same (Zp.kp kp1)
      have A3 := ((A15.kp kp1 R1).drop 5).add (Zp.sm hlo1).2.1 (Zp.sm hlo1).1 (fun _ z => by cases z)
      refine ⟨_, rfl, ?_⟩
      refine ⟨(by show 2 ≤ sizeLine; decide), fun l16 n16 => ?_⟩
      have A16 := A3.new (o := .tup [V.int 16, .int 1]) n16 (fun _ z => by cases z)
      generalize upd G1 l16 (.tup [V.int 16, .int 1]) = H16 at A16 ⊢
      refine ⟨(by show 2 ≤ sizeLine; decide), fun l17 n17 => ?_⟩
      have A17 := A16.new (o := .tup [V.int 9, .int 2]) n17 (fun _ z => by cases z)
      generalize upd H16 l17 (.tup [V.int 9, .int 2]) = H17 at A17 ⊢
      refine ⟨(by show 2 ≤ sizeLine; decide), fun l18 n18 => ?_⟩
      have A18 := A17.new (o := .tup [V.int 0, .int 1]) n18 (fun _ z => by cases z)
      generalize upd H17 l18 (.tup [V.int 0, .int 1]) = H18 at A18 ⊢
      refine ⟨(by show 3 ≤ sizeLine; decide), fun l19 n19 => ?_⟩
      have A19 := A18.new (o := .lst [V.ref l16, .ref l17, .ref l18]) n19 (fun _ z => by cases z)
      generalize upd H18 l19 (.lst [V.ref l16, .ref l17, .ref l18]) = H19 at A19 ⊢
      refine ⟨p, l19, _, rfl, A19.r, (A19.at (i := 0) rfl), (Zp.sm (A19.get (i := 0) rfl)).1, by show 0 < 3; decide, by show 3 < 1000; decide, fun v G2 mv kp2 R2 => ?_⟩
      obtain ⟨c4, wd, rfl, mwd, hwd⟩ : ∃ c lo, v = .ref c ∧ lo ∈ wides ∧ PartAt (Zp p H19) c lo := by
        simp only [List.mem_cons, List.not_mem_nil, or_false] at mv
        rcases mv with rfl | rfl | rfl
        · exact ⟨_, ((16 : Int) : Rat), rfl, by decide +kernel, part_of (A19.get (i := 3) rfl) (by decide +kernel) (by decide +kernel)⟩
        · exact ⟨_, Rat.divInt 9 2, rfl, by decide +kernel, part_of (A19.get (i := 2) rfl) (by decide +kernel) (by decide +kernel)⟩
        · exact ⟨_, 0, rfl, by decide +kernel, part_of (A19.get (i := 1) rfl) (by decide +kernel) (by decide +kernel)⟩
      have hwd2 := hwd.same (Zp.kp kp2)
      have A4 := (A19.kp kp2 R2).drop 4
      obtain ⟨s1, s2, s3, le⟩ := span_ok mlo mwd
      have hlo2 : PartAt G2 c3 lo := A4.at (i := 0) rfl
      have hwd3 : PartAt G2 c4 wd := (Zp.sm hwd2).2.1
      have hD2 : G2 D = some (.dK kvs) := A4.s _ _ (by rw [off_ne Dp]; exact hD)
      have sps2 := sps.same (Zp.offs A4.s)
      refine ⟨_, rfl, _, rfl, c3, _, _, _, rfl, rfl, SqT.of hlo2, rfl, _, rfl, c4, _, _, _, rfl, rfl, SqT.of hwd3, rfl, _, _, rfl, rfl, mul4 s1.1 s2.den (by decide) (by decide), ?_⟩
      refine ⟨_, rfl, c4, _, _, _, rfl, rfl, SqT.of hwd3, rfl, _, rfl, c3, _, _, _, rfl, rfl, SqT.of hlo2, rfl, _, _, rfl, rfl, mul4 s2.1 s1.den (by decide) (by decide), _, _, rfl, rfl, ?_⟩
      refine ⟨_, rfl, c3, _, _, _, rfl, rfl, SqT.of hlo2, rfl, _, rfl, c4, _, _, _, rfl, rfl, SqT.of hwd3, rfl, _, _, rfl, rfl, mul4 (by rw [Int.natAbs_natCast]; exact s1.den) s2.den (by decide) (by decide), ?_⟩
      refine ⟨_, _, rfl, Int.mul_pos (Int.natCast_pos.mpr lo.den_pos) (Int.natCast_pos.mpr wd.den_pos), ?_, fun q G3 k3 nq hq => ?_⟩
      · exact Nat.lt_of_lt_of_le (mul_lt (by rw [Int.natAbs_natCast]; exact s1.den) s2.den) (Nat.pow_le_pow_right (by decide) (by decide))
      have A5 := A4.same k3
      refine ⟨(by show 2 ≤ sizeLine; decide), fun t nt => ?_⟩
      have u4 := same_new (o := .tup [V.ref c3, .ref q]) nt
      have ht : upd G3 t (.tup [V.ref c3, .ref q]) t = some (.tup [V.ref c3, .ref q]) := upd_same
      have A6 := A5.same u4
      have hq4 := u4 _ _ hq
      have hD4 := u4 _ _ (k3 _ _ hD2)
      have sps4 := (sps2.same (Zp.same k3)).same (Zp.same u4)
      generalize upd G3 t (.tup [V.ref c3, .ref q]) = G4 at A6 hq4 hD4 ht sps4 ⊢
      have fresh : u ∉ sp.map (·.1) := by
        rw [ok.nm, li]
        exact names3_new hu3
      refine ⟨_, rfl, _, rfl, D, _, rfl, DPut.k (k := Sum.inr u) hD4 (by have z := ok.l3; rw [sps.len, sizeLine_eq]; omega), ?_⟩
      rw [putK_new (kvs := kvs) (by rw [sps.keys]; intro z; obtain ⟨x, hx, e⟩ := List.mem_map.mp z; exact fresh (Sum.inr.inj e ▸ hx))]
      have Af := A2.trans (A6.drop 1)
      have keepT : ∀ b xs, Zp p G4 b = some (.tup xs) → Zp p (upd G4 D (.dK (kvs ++ [(Sum.inr u, V.ref t)]))) b = some (.tup xs) := fun b xs e =>
        Zp.mk (by rw [upd_ne (fun z => by rw [z] at e; exact absurd ((Zp.sm e).2.1.symm.trans hD4) (fun y => by cases y))]; exact (Zp.sm e).2.1) (Zp.sm e).1 (fun _ z => by cases z)
      refine ⟨Af.updN nO Dp (fun x hx => ?_), _, sp ++ [(u, lo, rAdd lo wd)], _, _, _, rfl, upd_same, SpsAt.snoc (keepT _ _ (A6.r.zp_tup ht)) (keepT _ _ (A6.r.zp_tup (A6.at (i := 0) rfl))) (keepT _ _ (A6.r.zp_tup hq4)) (sps4.keep keepT), ⟨?_, ?_, fun x hx => ?_⟩, by rw [List.length_append, li]; rfl⟩
      · rw [List.mem_singleton.mp hx]
        exact lD
      · rw [List.map_append, ok.nm, List.length_append, li, List.length_singleton, List.take_succ, hu3]
        rfl
      · have il := (List.getElem?_eq_some_iff.mp hu3).1
        have : names3.length = 3 := rfl
        rw [List.length_append, li, List.length_singleton]
        omega
      · rcases List.mem_append.mp hx with h | h
        · exact ok.ok x h
        · rw [List.mem_singleton.mp h]
          exact ⟨s1, s3, le⟩
    · rintro z G ⟨A4, kvs, sp, v2, v3, v4, rfl, hD, sps, ok, li⟩
      exact ⟨_, rfl, k D kvs sp G A4.s A4.r Dp hD sps ok⟩
end
end K18
set_option maxHeartbeats 4000000
namespace K18
open PySem PySem.Spec PyProof.Rows L2 GL
abbrev sShift : Stmt := tp 54
/-- a move as the law has it: divisor, plus, low, high -/
def ShAt (H : Hp) (c : Addr) (m : Mvd) : Prop := ∃ a b d, H c = some (.tup [.int m.1, .ref a, .ref b, .ref d]) ∧ PartAt H a m.2.1 ∧ PartAt H b m.2.2.1 ∧ PartAt H d m.2.2.2
theorem ShAt.keep {H H' : Hp} {c : Addr} {m : Mvd} (k : ∀ b xs, H b = some (.tup xs) → H' b = some (.tup xs)) (h : ShAt H c m) : ShAt H' c m := by
  obtain ⟨a, b, d, e, h1, h2, h3⟩ := h
  exact ⟨a, b, d, k _ _ e, k _ _ h1, k _ _ h2, k _ _ h3⟩
theorem ShAt.same {H H' : Hp} {c : Addr} {m : Mvd} (k : Same H H') (h : ShAt H c m) : ShAt H' c m := h.keep fun b xs e => k _ _ e
structure ShOk (m : Mvd) : Prop where
  d1 : 1 ≤ m.1
  u : Sz 80 m.2.1
  lo : Sz 80 m.2.2.1
  hi : Sz 80 m.2.2.2
  le : rBelow m.2.2.2 m.2.2.1 = false
def mores : List Rat := [0, ((8 : Int) : Rat), ((-3 : Int) : Rat), Rat.divInt 1 2, Rat.divInt 5 3, Rat.divInt (-9) 2]
theorem mores_ok : ∀ q ∈ mores, Sz 80 q := by
  have h : (mores.all fun q => decide (q.num.natAbs < 2 ^ 80 ∧ q.den < 2 ^ 80)) = true := by decide +kernel
  intro q hq
  show q.num.natAbs < 2 ^ 80 ∧ q.den < 2 ^ 80
  exact of_decide_eq_true (List.all_eq_true.mp h q hq)
section
variable {P : Program} {w : World} {K : PySem.W.Frag} {mg : Str → Option Value} {base : Heap}
def spShift (K : PySem.W.Frag) : Sp := fun vs H Q _ => ∃ (p t a b : Addr) (lo hi : Rat), vs = [.ref p, .ref t] ∧ Rng H p ∧ H t = some (.tup [.ref a, .ref b]) ∧ PartAt H a lo ∧ PartAt H b hi ∧ Sz 30 lo ∧ Sz 30 hi ∧ rBelow hi lo = false ∧
  ∀ c m H', Same (off H p) H' → Rng H' p → ShAt H' c m → ShOk m → Q (.ref c) H'
abbrev nShift : List Str := ["_law_pot_here", "_law_span", "_law_low", "_law_high", "_law_way", "_law_first", "_law_second", "_law_more", "_law_divisor", "_law_ends_two"]
theorem scShift : FnScope nShift ["_law_pot_here", "_law_span"] (defScope sShift) := ⟨rfl, rfl, rfl, by decide +kernel, rfl, by decide +kernel, by decide +kernel⟩
theorem ok_shift {f : Addr} {fd : FuncData} (F : Fun K "_law_shift" "_law_shift" sShift f fd) (dr : DefF P w K mg base "_law_draw" 1 ["_law_pot_here", "_law_many"] spDraw) (pk : DefF P w K mg base "_law_pick" 2 ["_law_pot_here", "_law_some"] (spChoice K)) (bt : DefF P w K mg base "_law_between" 2 ["_law_low", "_law_high", "_law_share"] (spBetween K)) (srt : mg "sorted" = none) : FnOk P w K mg base CX0 3 f fd ["_law_pot_here", "_law_span"] (spShift K) := by
  obtain ⟨fC, fdC, GC_, gC, bC, kC⟩ := pk
  obtain ⟨fD, fdD, GD, gD, bD, kD⟩ := dr
  obtain ⟨fB, fdB, GB_, gB, bB, kB⟩ := bt
  refine F.ok scShift (fun vs H Q E h => ?_) (fun cdv A outer s H vs Q E hr h => ?_)
  · obtain ⟨p, t, a, b, lo, hi, rfl, _⟩ := h
    rfl
  · obtain ⟨p, t, a, b, lo, hi, rfl, R, ht, ha, hb, sl, sh, le, k⟩ := h
    refine ⟨_, pss_cons (ps_asg (pv 1) (pg_tup (by rfl) (pgs_cons (pg_name (i := 2) scShift.nd rfl (.inl rfl)) (pgs_cons (pg_name (i := 3) scShift.nd rfl (.inl rfl)) pgs_nil))))
      (pss_cons (ps_par3 (i := 4) (j := 5) (l := 6) (by rfl) scShift.nd rfl rfl rfl (by decide) (by decide) (by decide) rfl rfl rfl (pa_cons (pe_call GD (hr.mono (by decide)) rfl gD kD bD .nil pass0 (pa_cons (pv 0) (pa_cons pe_int pa_nil))) (pa_cons (pe_call GD (hr.mono (by decide)) rfl gD kD bD .nil pass0 (pa_cons (pv 0) (pa_cons pe_int pa_nil))) (pa_cons (pe_call GD (hr.mono (by decide)) rfl gD kD bD .nil pass0 (pa_cons (pv 0) (pa_cons pe_int pa_nil))) pa_nil))) (by rfl))
      (pss_cons (ps_if (pt_cmpR op_eq (pv 4) pe_int (nomark _)) (pss_one (ps_ret (pe_tup (pa_cons pe_int (pa_cons (pe_tup (pa_cons pe_int (pa_cons pe_int pa_nil))) (pa_cons (pe_call GB_ hr rfl gB kB bB .nil pass0 (pa_cons (pv 2) (pa_cons (pv 3) (pa_cons (pv 5) pa_nil)))) (pa_cons (pe_call GB_ hr rfl gB kB bB .nil pass0 (pa_cons (pv 2) (pa_cons (pv 3) (pa_cons (pv 5) pa_nil)))) pa_nil))))))) pss_nil)
      (pss_cons (ps_set (i := 7) scShift.nd rfl (Or.inl rfl) (pe_call GC_ hr rfl gC kC bC .nil pass0 (pa_cons (pv 0) (pa_cons (pe_lst (pa_cons (pe_tup (pa_cons pe_int (pa_cons pe_int pa_nil))) (pa_cons (pe_tup (pa_cons pe_int (pa_cons pe_int pa_nil))) (pa_cons (pe_tup (pa_cons (pe_un un_neg pe_int) (pa_cons pe_int pa_nil))) (pa_cons (pe_tup (pa_cons pe_int (pa_cons pe_int pa_nil))) (pa_cons (pe_tup (pa_cons pe_int (pa_cons pe_int pa_nil))) (pa_cons (pe_tup (pa_cons (pe_un un_neg pe_int) (pa_cons pe_int pa_nil))) pa_nil))))))) pa_nil))))
      (pss_cons (ps_set (i := 8) scShift.nd rfl (Or.inl rfl) (pe_call GC_ hr rfl gC kC bC .nil pass0 (pa_cons (pv 0) (pa_cons (pe_lst (pa_cons pe_int (pa_cons pe_int (pa_cons pe_int (pa_cons pe_int (pa_cons pe_int pa_nil)))))) pa_nil))))
      (pss_cons (ps_if (pt_cmpR op_lt (pv 4) pe_int (nomark _)) (pss_one (ps_ret (pe_tup (pa_cons (pv 8) (pa_cons (pv 7) (pa_cons (pv 2) (pa_cons (pv 3) pa_nil))))))) pss_nil)
      (pss_cons (ps_set (i := 9) scShift.nd rfl (Or.inl rfl) (pe_callB cr_sorted (by rfl) srt (by decide +kernel) (pa_cons (pe_lst (pa_cons (pv 5) (pa_cons (pv 6) pa_nil))) pa_nil)))
      (pss_one (ps_ret (pe_tup (pa_cons (pv 8) (pa_cons (pv 7) (pa_cons (pe_call GB_ hr rfl gB kB bB .nil pass0 (pa_cons (pv 2) (pa_cons (pv 3) (pa_cons (pe_ix ix_list (pv 9) pe_int (fun _ _ => rfl)) pa_nil)))) (pa_cons (pe_call GB_ hr rfl gB kB bB .nil pass0 (pa_cons (pv 2) (pa_cons (pv 3) (pa_cons (pe_ix ix_list (pv 9) pe_int (fun _ _ => rfl)) pa_nil)))) pa_nil))))))))))))), ?_⟩
    have A0 := ((At.nil R).add ha (R.ne ha) (fun _ z => by cases z)).add hb (R.ne hb) (fun _ z => by cases z)
    refine ⟨_, rfl, t, _, rfl, SqT.of ht, rfl, _, _, rfl, _, _, rfl, rfl, ?_⟩
    refine ⟨_, rfl, p, 5, rfl, A0.r, by decide, by decide, fun d1 H1 x1 y1 k1 R1 => ?_⟩
    have A1 := A0.kp k1 R1
    refine ⟨_, rfl, p, 5, rfl, A1.r, by decide, by decide, fun d2 H2 x2 y2 k2 R2 => ?_⟩
    have A2 := A1.kp k2 R2
    refine ⟨_, rfl, p, 5, rfl, A2.r, by decide, by decide, fun d3 H3 x3 y3 k3 R3 => ?_⟩
    have A3 := A2.kp k3 R3
    clear A0 A1 A2 k1 k2 k3
    refine ⟨_, _, _, rfl, ?_⟩
    refine ⟨_, rfl, rfl, _, rfl, ?_⟩
    refine ite2 (fun _ => ?_) (fun _ => ?_)
    · refine ⟨(by show 2 ≤ sizeLine; decide), fun l11 n11 => ?_⟩
      have A11 := A3.new (o := .tup [V.int 0, .int 1]) n11 (fun _ z => by cases z)
      generalize upd H3 l11 (.tup [V.int 0, .int 1]) = H11 at A11 ⊢
      refine ⟨_, rfl, _, rfl, _, rfl, a, b, lo, hi, d2, rfl, (A11.at (i := 2) rfl), (A11.at (i := 1) rfl), sl, sh, by omega, by omega, fun q1 H4 s4 n4 h4 => ?_⟩
      have A4 := (A11.same s4).add h4 (A11.r.ne_new' n4) (fun _ z => by cases z)
      refine ⟨_, rfl, _, rfl, _, rfl, a, b, lo, hi, d2, rfl, (A4.at (i := 3) rfl), (A4.at (i := 2) rfl), sl, sh, by omega, by omega, fun q2 H5 s5 n5 h5 => ?_⟩
      have A5 := (A4.same s5).add h5 (A4.r.ne_new' n5) (fun _ z => by cases z)
      refine ⟨(by show 4 ≤ sizeLine; decide), fun l12 n12 => ?_⟩
      have A12 := A5.new (o := .tup [V.int 1, .ref l11, .ref q1, .ref q2]) n12 (fun _ z => by cases z)
      generalize upd H5 l12 (.tup [V.int 1, .ref l11, .ref q1, .ref q2]) = H12 at A12 ⊢
      exact k l12 (1, 0, betw lo hi d2, betw lo hi d2) _ A12.s A12.r ⟨l11, q1, q2, (A12.at (i := 0) rfl), part_of (A12.at (i := 3) rfl) (by show (0 : Rat).num = 0; decide +kernel) (by show ((0 : Rat).den : Int) = 1; decide +kernel), (A12.at (i := 2) rfl), (A12.at (i := 1) rfl)⟩ ⟨by show (1 : Int) ≤ 1; decide, mores_ok 0 (by decide +kernel), betw_sz sl sh (by omega) (by omega), betw_sz sl sh (by omega) (by omega), betw_mono le (Int.le_refl _)⟩
    · refine ⟨_, rfl, ?_⟩
      refine ⟨(by show 2 ≤ sizeLine; decide), fun l21 n21 => ?_⟩
      have A21 := A3.new (o := .tup [V.int 0, .int 1]) n21 (fun _ z => by cases z)
      generalize upd H3 l21 (.tup [V.int 0, .int 1]) = H21 at A21 ⊢
      refine ⟨(by show 2 ≤ sizeLine; decide), fun l22 n22 => ?_⟩
      have A22 := A21.new (o := .tup [V.int 8, .int 1]) n22 (fun _ z => by cases z)
      generalize upd H21 l22 (.tup [V.int 8, .int 1]) = H22 at A22 ⊢
      refine ⟨_, rfl, ?_⟩
      refine ⟨(by show 2 ≤ sizeLine; decide), fun l23 n23 => ?_⟩
      have A23 := A22.new (o := .tup [V.int (-3), .int 1]) n23 (fun _ z => by cases z)
      generalize upd H22 l23 (.tup [V.int (-3), .int 1]) = H23 at A23 ⊢
      refine ⟨(by show 2 ≤ sizeLine; decide), fun l24 n24 => ?_⟩
      have A24 := A23.new (o := .tup [V.int 1, .int 2]) n24 (fun _ z => by cases z)
      generalize upd H23 l24 (.tup [V.int 1, .int 2]) = H24 at A24 ⊢
      refine ⟨(by show 2 ≤ sizeLine; decide), fun l25 n25 => ?_⟩
      have A25 := A24.new (o := .tup [V.int 5, .int 3]) n25 (fun _ z => by cases z)
      generalize upd H24 l25 (.tup [V.int 5, .int 3]) = H25 at A25 ⊢
      refine ⟨_, rfl, ?_⟩
      refine ⟨(by show 2 ≤ sizeLine; decide), fun l26 n26 => ?_⟩
      have A26 := A25.new (o := .tup [V.int (-9), .int 2]) n26 (fun _ z => by cases z)
      generalize upd H25 l26 (.tup [V.int (-9), .int 2]) = H26 at A26 ⊢
      refine ⟨(by show 6 ≤ sizeLine; decide), fun l27 n27 => ?_⟩
      have A27 := A26.new (o := .lst [V.ref l21, .ref l22, .ref l23, .ref l24, .ref l25, .ref l26]) n27 (fun _ z => by cases z)
      generalize upd H26 l27 (.lst [V.ref l21, .ref l22, .ref l23, .ref l24, .ref l25, .ref l26]) = H27 at A27 ⊢
      refine ⟨p, l27, _, rfl, A27.r, (A27.at (i := 0) rfl), (Zp.sm (A27.get (i := 0) rfl)).1, by show 0 < 6; decide, by show 6 < 1000; decide, fun v H4 mv kp4 R4 => ?_⟩
      obtain ⟨cu, u, rfl, mu, hu⟩ : ∃ c q, v = .ref c ∧ q ∈ mores ∧ PartAt (Zp p H27) c q := by
        simp only [List.mem_cons, List.not_mem_nil, or_false] at mv
        rcases mv with rfl | rfl | rfl | rfl | rfl | rfl
        · exact ⟨_, 0, rfl, by decide +kernel, part_of (A27.get (i := 6) rfl) (by decide +kernel) (by decide +kernel)⟩
        · exact ⟨_, ((8 : Int) : Rat), rfl, by decide +kernel, part_of (A27.get (i := 5) rfl) (by decide +kernel) (by decide +kernel)⟩
        · exact ⟨_, ((-3 : Int) : Rat), rfl, by decide +kernel, part_of (A27.get (i := 4) rfl) (by decide +kernel) (by decide +kernel)⟩
        · exact ⟨_, Rat.divInt 1 2, rfl, by decide +kernel, part_of (A27.get (i := 3) rfl) (by decide +kernel) (by decide +kernel)⟩
        · exact ⟨_, Rat.divInt 5 3, rfl, by decide +kernel, part_of (A27.get (i := 2) rfl) (by decide +kernel) (by decide +kernel)⟩
        · exact ⟨_, Rat.divInt (-9) 2, rfl, by decide +kernel, part_of (A27.get (i := 1) rfl) (by decide +kernel) (by decide +kernel)⟩
      have hu1 := hu.same (Zp.kp kp4)
      have A4 := ((A27.kp kp4 R4).drop 7).add (Zp.sm hu1).2.1 (Zp.sm hu1).1 (fun _ z => by cases z)
      refine ⟨_, rfl, ?_⟩
      refine ⟨(by show 5 ≤ sizeLine; decide), fun l28 n28 => ?_⟩
      have A28 := A4.new (o := .lst [V.int 1, .int 2, .int 2, .int 3, .int 9]) n28 (fun _ z => by cases z)
      generalize upd H4 l28 (.lst [V.int 1, .int 2, .int 2, .int 3, .int 9]) = H28 at A28 ⊢
      refine ⟨p, l28, _, rfl, A28.r, (A28.at (i := 0) rfl), (Zp.sm (A28.get (i := 0) rfl)).1, by show 0 < 5; decide, by show 5 < 1000; decide, fun v H5 mv kp5 R5 => ?_⟩
      obtain ⟨dv, rfl, dv1⟩ : ∃ dv : Int, v = .int dv ∧ 1 ≤ dv := by
        simp only [List.mem_cons, List.not_mem_nil, or_false] at mv
        rcases mv with rfl | rfl | rfl | rfl | rfl <;> exact ⟨_, rfl, by decide⟩
      have A5 := (A28.kp kp5 R5).drop 1
      refine ⟨_, rfl, _, _, rfl, rfl, _, rfl, ?_⟩
      refine ite2 (fun _ => ?_) (fun _ => ?_)
      · refine ⟨_, rfl, _, rfl, _, rfl, _, rfl, (by show 4 ≤ sizeLine; decide), fun c nc => ?_⟩
        have A6 := A5.new (o := .tup [V.int dv, .ref cu, .ref a, .ref b]) nc (fun _ z => by cases z)
        exact k c (dv, u, lo, hi) _ A6.s A6.r ⟨cu, a, b, A6.at (i := 0) rfl, A6.at (i := 1) rfl, A6.at (i := 3) rfl, A6.at (i := 2) rfl⟩ ⟨dv1, mores_ok _ mu, sl.mono (by decide), sh.mono (by decide), le⟩
      refine ⟨_, rfl, _, rfl, ?_⟩
      refine ⟨(by show 2 ≤ sizeLine; decide), fun l29 n29 => ?_⟩
      have A29 := A5.new (o := .lst [V.int d2, .int d3]) n29 (fun _ z => by cases z)
      generalize upd H5 l29 (.lst [V.int d2, .int d3]) = H29 at A29 ⊢
      refine ⟨l29, [d2, d3], rfl, SqL.of (A29.at (i := 0) rfl), by show 2 < 64; decide, fun ns l2 pm rise n2 => ?_⟩
      obtain ⟨x, y, rfl, xy, x0, xx, y0, yy⟩ : ∃ x y, ns = [x, y] ∧ x ≤ y ∧ 0 ≤ x ∧ x < 5 ∧ 0 ≤ y ∧ y < 5 := by
        have ll := pm.length_eq
        match ns, ll, pm, rise with
        | [x, y], _, pm, rise =>
          have mem : ∀ z ∈ [x, y], 0 ≤ z ∧ z < 5 := fun z hz => by
            have q := pm.mem_iff.mp hz
            simp only [List.mem_cons, List.not_mem_nil, or_false] at q
            rcases q with rfl | rfl <;> omega
          have r := (List.pairwise_cons.mp rise).1 y (by simp)
          exact ⟨x, y, rfl, r, (mem x (by simp)).1, (mem x (by simp)).2, (mem y (by simp)).1, (mem y (by simp)).2⟩
      have A7 := A29.new (o := .lst ([x, y].map V.int)) n2 (fun _ z => by cases z)
      generalize upd H29 l2 (.lst ([x, y].map V.int)) = H7 at A7 ⊢
      refine ⟨_, rfl, _, rfl, _, rfl, _, rfl, _, rfl, l2, _, _, _, rfl, rfl, SqL.of (A7.at (i := 0) rfl), rfl, a, b, lo, hi, x, rfl, (A7.at (i := 4) rfl), (A7.at (i := 3) rfl), sl, sh, by omega, by omega, fun q1 H8 s8 n8 h8 => ?_⟩
      have A8 := (A7.same s8).add h8 (A7.r.ne_new' n8) (fun _ z => by cases z)
      refine ⟨_, rfl, _, rfl, _, rfl, l2, _, _, _, rfl, rfl, SqL.of (A8.at (i := 1) rfl), rfl, a, b, lo, hi, y, rfl, (A8.at (i := 5) rfl), (A8.at (i := 4) rfl), sl, sh, by omega, by omega, fun q2 H9 s9 n9 h9 => ?_⟩
      have A9 := (A8.same s9).add h9 (A8.r.ne_new' n9) (fun _ z => by cases z)
      refine ⟨(by show 4 ≤ sizeLine; decide), fun l30 n30 => ?_⟩
      have A30 := A9.new (o := .tup [V.int dv, .ref cu, .ref q1, .ref q2]) n30 (fun _ z => by cases z)
      generalize upd H9 l30 (.tup [V.int dv, .ref cu, .ref q1, .ref q2]) = H30 at A30 ⊢
      exact k l30 (dv, u, betw lo hi x, betw lo hi y) _ A30.s A30.r ⟨cu, q1, q2, (A30.at (i := 0) rfl), (A30.at (i := 5) rfl), (A30.at (i := 2) rfl), (A30.at (i := 1) rfl)⟩ ⟨dv1, mores_ok _ mu, betw_sz sl sh (by omega) (by omega), betw_sz sl sh (by omega) (by omega), betw_mono le xy⟩
end
end K18
set_option maxHeartbeats 4000000
namespace K18
open PySem PySem.Spec PyProof.Rows L2 GL
abbrev sShifts : Stmt := tp 55
section
variable {p D : Addr} {H G : Hp} {u fz : HO}
theorem rng_upd (R : Rng H p) (Dp : D ≠ p) : Rng (upd H D u) p := by
  obtain ⟨x, y, e, r⟩ := R
  exact ⟨x, y, by rw [upd_ne Dp.symm]; exact e, r⟩
theorem unlock_same (hD : H D = some u) (k : Same (off (upd H D fz) p) G) : Same (off H p) (upd G D u) := fun b o e => by
  obtain ⟨n, e⟩ := off_some e
  by_cases c : b = D
  · subst c
    rw [upd_same, ← e, hD]
  · rw [upd_ne c]
    exact k b o (by rw [off_ne n, upd_ne c]; exact e)
end
theorem take_new : ∀ {l : List Str} {i : Nat} {u : Str}, l.Nodup → l[i]? = some u → u ∉ l.take i
  | [], _, _, _, h => by cases h
  | a :: r, 0, u, _, _ => fun z => by cases z
  | a :: r, i + 1, u, nd, h => by
    obtain ⟨n1, n2⟩ := List.nodup_cons.mp nd
    have hr : r[i]? = some u := h
    intro z
    rw [List.take_succ_cons] at z
    rcases List.mem_cons.mp z with e | z
    · subst e
      exact n1 (List.mem_of_getElem? hr)
    · exact take_new n2 hr z
/-- moves by levels as the law has them: a dict's entries -/
def ShsAt (H : Hp) : List (Key × V) → List (Str × Mvd) → Prop
  | [], [] => True
  | (k, v) :: r, (n, m) :: t => k = Sum.inr n ∧ (∃ c, v = .ref c ∧ ShAt H c m) ∧ ShsAt H r t
  | _, _ => False
theorem ShsAt.keep {H H' : Hp} (k : ∀ b xs, H b = some (.tup xs) → H' b = some (.tup xs)) : ∀ {kvs : List (Key × V)} {ms : List (Str × Mvd)}, ShsAt H kvs ms → ShsAt H' kvs ms
  | [], [], _ => trivial
  | (_, _) :: _, (_, _) :: _, ⟨e, ⟨c, ev, h⟩, t⟩ => ⟨e, ⟨c, ev, h.keep k⟩, t.keep k⟩
  | [], _ :: _, h => h.elim
  | _ :: _, [], h => h.elim
theorem ShsAt.same {H H' : Hp} (k : Same H H') {kvs : List (Key × V)} {ms : List (Str × Mvd)} (h : ShsAt H kvs ms) : ShsAt H' kvs ms := h.keep fun b xs e => k _ _ e
theorem ShsAt.len {H : Hp} : ∀ {kvs : List (Key × V)} {ms : List (Str × Mvd)}, ShsAt H kvs ms → kvs.length = ms.length
  | [], [], _ => rfl
  | (_, _) :: _, (_, _) :: _, ⟨_, _, t⟩ => by rw [List.length_cons, List.length_cons, t.len]
  | [], _ :: _, h => h.elim
  | _ :: _, [], h => h.elim
theorem ShsAt.keys {H : Hp} : ∀ {kvs : List (Key × V)} {ms : List (Str × Mvd)}, ShsAt H kvs ms → kvs.map (·.1) = (ms.map (·.1)).map Sum.inr
  | [], [], _ => rfl
  | (_, _) :: _, (_, _) :: _, ⟨e, _, t⟩ => by simp only [List.map_cons, t.keys, e]
  | [], _ :: _, h => h.elim
  | _ :: _, [], h => h.elim
theorem ShsAt.snoc {H : Hp} {n : Str} {m : Mvd} {c : Addr} (hc : ShAt H c m) : ∀ {kvs : List (Key × V)} {ms : List (Str × Mvd)}, ShsAt H kvs ms → ShsAt H (kvs ++ [(Sum.inr n, .ref c)]) (ms ++ [(n, m)])
  | [], [], _ => ⟨rfl, ⟨c, rfl, hc⟩, trivial⟩
  | (_, _) :: _, (_, _) :: _, ⟨e, x, t⟩ => ⟨e, x, t.snoc hc⟩
  | [], _ :: _, h => h.elim
  | _ :: _, [], h => h.elim
structure ShsOk (ms : List (Str × Mvd)) : Prop where
  nd : (ms.map (·.1)).Nodup
  mem : ∀ n ∈ ms.map (·.1), n ∈ names3
  l3 : ms.length ≤ 3
  ok : ∀ x ∈ ms, ShOk x.2
section
variable {P : Program} {w : World} {K : PySem.W.Frag} {mg : Str → Option Value} {base : Heap}
def spShifts (K : PySem.W.Frag) : Sp := fun vs H Q _ => ∃ (p D0 : Addr) (kvs : List (Key × V)) (sp : Spd), vs = [.ref p, .ref D0] ∧ Rng H p ∧ D0 ≠ p ∧ H D0 = some (.dK kvs) ∧ SpsAt H kvs sp ∧ SpOk sp ∧
  ∀ D kvs' ms H', Same (off H p) H' → Rng H' p → D ≠ p → H' D = some (.dK kvs') → ShsAt H' kvs' ms → ShsOk ms → Q (.ref D) H'
abbrev nShifts : List Str := ["_law_pot_here", "_law_spans_here", "_law_found", "_law_name_now"]
theorem scShifts : FnScope nShifts ["_law_pot_here", "_law_spans_here"] (defScope sShifts) := ⟨rfl, rfl, rfl, by decide +kernel, rfl, by decide +kernel, by decide +kernel⟩
theorem ok_shifts {f : Addr} {fd : FuncData} (F : Fun K "_law_shifts" "_law_shifts" sShifts f fd) (dr : DefF P w K mg base "_law_draw" 1 ["_law_pot_here", "_law_many"] spDraw) (sh : DefF P w K mg base "_law_shift" 3 ["_law_pot_here", "_law_span"] (spShift K)) : FnOk P w K mg base CX0 4 f fd ["_law_pot_here", "_law_spans_here"] (spShifts K) := by
  obtain ⟨fD, fdD, GD, gD, bD, kD⟩ := dr
  obtain ⟨fS, fdS, GS_, gS, bS, kS⟩ := sh
  refine F.ok scShifts (fun vs H Q E h => ?_) (fun cdv A outer s H vs Q E hr h => ?_)
  · obtain ⟨p, D0, kvs, sp, rfl, _⟩ := h
    rfl
  · obtain ⟨p, D0, kvs, sp, rfl, R, Dp0, hD0, sps, ok, k⟩ := h
    have hu := hr.units
    have hu1 : (A.deeper (envOfC "_law_shifts" (defScope sShifts) s.heap.objs.size f cdv)).units + 1 < cLine := by omega
    refine ⟨_, pss_cons (ps_set (i := 2) scShifts.nd rfl (Or.inl rfl) pe_dnewK)
      (pss_cons (ps_lock (ps_for PassesOwn.never rfl (pi_keys (pv 1)) (pg_name (i := 3) scShifts.nd rfl (Or.inl rfl))
        (pss_one (ps_if (pt_cmpR op_gt (pe_call GD (hr.mono (by decide)) rfl gD kD bD .nil pass0 (pa_cons (pv 0) (pa_cons pe_int pa_nil))) pe_int (nomark _))
          (pss_one (ps_dput hu1 (pv 2) (pv 3) (pe_call GS_ hr rfl gS kS bS .nil pass0 (pa_cons (pv 0) (pa_cons (pe_dget hu1 (pv 1) (pv 3) (fun _ _ => rfl)) pa_nil))) rfl)) pss_nil))))
      (pss_one (ps_ret (pv 2)))), ?_⟩
    intro D nD
    have uD := same_new (o := .dK []) nD
    have hD : upd H D (.dK []) D = some (.dK []) := upd_same
    have Dp := R.ne_new' nD
    have DD0 : D ≠ D0 := (ne_of_none hD0 nD).symm
    have R1 := R.same' uD
    have hD01 := uD _ _ hD0
    have sps1 := sps.same uD
    have nO : off H p D = none := by rw [off_ne Dp]; exact nD
    generalize upd H D (.dK []) = H1 at uD hD R1 hD01 sps1 ⊢
    refine ⟨D0, _, hD01, trivial, fun od => ?_⟩
    refine ⟨_, rfl, D0, od, rfl, .inl ⟨kvs, upd_same, ?_⟩⟩
    have RL : Rng (upd H1 D0 (.frz od (.dK kvs))) p := rng_upd R1 Dp0
    have hDL : upd H1 D0 (.frz od (.dK kvs)) D = some (.dK []) := (upd_ne DD0).trans hD
    have hLL : upd H1 D0 (.frz od (.dK kvs)) D0 = some (.frz od (.dK kvs)) := upd_same
    have spL : SpsAt (upd H1 D0 (.frz od (.dK kvs))) kvs sp := sps1.keep fun b xs e => by rw [upd_ne (fun z => by rw [z, hD01] at e; cases e)]; exact e
    obtain ⟨HL, eL⟩ : ∃ X, X = upd H1 D0 (.frz od (.dK kvs)) := ⟨_, rfl⟩
    have nOL : off HL p D0 = some (.frz od (.dK kvs)) := by rw [off_ne Dp0, eL]; exact hLL
    refine for_it walk_keys (fun i z G => (∀ b o, off HL p b = some o → b ≠ D → G b = some o) ∧ Rng G p ∧ ∃ kvs' ms v3, z = [some (.ref p), some (.ref D0), some (.ref D), v3] ∧ G D = some (.dK kvs') ∧ ShsAt G kvs' ms ∧ ShsOk ms ∧ ms.length ≤ i ∧ ∀ n ∈ ms.map (·.1), n ∈ (sp.map (·.1)).take i) ?_ ?_ ?_ ?_
    · rw [← eL] at RL hDL ⊢
      exact ⟨fun b o e n => (off_some e).2, RL, [], [], none, rfl, hDL, trivial, ⟨List.nodup_nil, (fun n hn => by cases hn), by decide, fun x hx => by cases hx⟩, Nat.le_refl _, fun n hn => by cases hn⟩
    · rintro i z G hi ⟨s, _⟩
      exact s _ _ nOL DD0.symm
    · rintro i y z G G0 hi ⟨s, RG, kvs', ms, v3, rfl, hDG, shs, sok, li, sub⟩ ⟨rfl, key, v, hk, rfl⟩
      obtain ⟨u, hu2, rfl⟩ : ∃ u, (sp.map (·.1))[i]? = some u ∧ key = Sum.inr u := by
        have z : (kvs.map (·.1))[i]? = some key := by rw [List.getElem?_map, hk]; rfl
        rw [sps.keys, List.getElem?_map] at z
        obtain ⟨u, h1, h2⟩ := Option.map_eq_some_iff.mp z
        exact ⟨u, h1, h2.symm⟩
      obtain ⟨lo, hi_, c, a, b, mem, _, ev, hc, ha, hb⟩ := spL.look (List.mem_of_getElem? hu2)
      obtain ⟨sl, sh_, le⟩ := ok.ok _ mem
      rw [← eL] at hc ha hb
      have tG : ∀ b xs, HL b = some (.tup xs) → G0 b = some (.tup xs) := fun b xs e => s b _ (by
        rw [off_ne (fun z => ?_)]
        · exact e
        · rw [z] at e
          rw [← eL] at RL
          obtain ⟨x1, x2, e3, _⟩ := RL
          rw [e] at e3
          cases e3) (fun z => by
        rw [← eL] at hDL
        rw [z, hDL] at e
        cases e)
      refine ⟨_, rfl, p, 3, rfl, RG, by decide, by decide, fun d G1 d0 d1 kp R1 => ?_⟩
      refine ⟨_, _, rfl, rfl, _, rfl, ?_⟩
      have s1 : ∀ b o, off HL p b = some o → b ≠ D → G1 b = some o := fun b o e n => kp _ _ (s b o e n) (off_some e).1
      have hD1 := kp _ _ hDG Dp
      have shs1 : ShsAt G1 kvs' ms := shs.keep fun b xs e => kp b _ e (RG.ne e)
      refine ite2 (fun _ => ?_) (fun _ => ?_)
      · refine ⟨_, rfl, _, rfl, _, rfl, D0, .ref c, rfl, .inl ⟨kvs, .inr u, .inr ⟨od, s1 _ _ nOL DD0.symm⟩, rfl, ev.symm⟩, ?_⟩
        refine ⟨p, c, a, b, lo, hi_, rfl, R1, kp _ _ (tG _ _ hc) (RG.ne (tG _ _ hc)), kp _ _ (tG _ _ ha) (RG.ne (tG _ _ ha)), kp _ _ (tG _ _ hb) (RG.ne (tG _ _ hb)), sl, sh_, le, fun cc m G2 s2 R2 hcc mok => ?_⟩
        have hD2 := s2 _ _ (by rw [off_ne Dp]; exact hD1)
        have new : u ∉ ms.map (·.1) := fun z => take_new ok.nd hu2 (sub u z)
        have shs2 : ShsAt G2 kvs' ms := shs1.keep fun b xs e => s2 b _ (by rw [off_ne (R1.ne e)]; exact e)
        refine ⟨_, rfl, _, rfl, D, _, rfl, DPut.k (k := Sum.inr u) hD2 (by have z := sok.l3; rw [shs2.len, sizeLine_eq]; omega), ?_⟩
        rw [putK_new (kvs := kvs') (by rw [shs2.keys]; intro z; obtain ⟨x, hx, e⟩ := List.mem_map.mp z; exact new (Sum.inr.inj e ▸ hx))]
        have kT : ∀ b xs, G2 b = some (.tup xs) → upd G2 D (.dK (kvs' ++ [(Sum.inr u, V.ref cc)])) b = some (.tup xs) := fun b xs e => by
          rw [upd_ne (fun z => by rw [z, hD2] at e; cases e)]
          exact e
        have lk : i < sp.length := by
          rw [← sps.len]
          exact hi
        refine ⟨fun b o e n => ?_, rng_upd R2 Dp, _, ms ++ [(u, m)], _, rfl, upd_same, (shs2.keep kT).snoc (hcc.keep kT), ⟨?_, fun n hn => ?_, ?_, fun x hx => ?_⟩, ?_, fun n hn => ?_⟩
        · rw [upd_ne n]
          exact s2 b o (by rw [off_ne (off_some e).1]; exact s1 b o e n)
        · rw [List.map_append, List.nodup_append]
          exact ⟨sok.nd, by simp, fun a ha b hb e => by rw [List.map_singleton, List.mem_singleton] at hb; subst hb; exact new (e ▸ ha)⟩
        · rw [List.map_append] at hn
          rcases List.mem_append.mp hn with h | h
          · exact sok.mem n h
          · rw [List.map_singleton, List.mem_singleton] at h
            rw [h]
            exact ok.mem u (List.mem_of_getElem? hu2)
        · have := ok.l3
          rw [List.length_append, List.length_singleton]
          omega
        · rcases List.mem_append.mp hx with h | h
          · exact sok.ok x h
          · rw [List.mem_singleton.mp h]
            exact mok
        · rw [List.length_append, List.length_singleton]
          omega
        · rw [List.take_succ, hu2]
          rw [List.map_append] at hn
          rcases List.mem_append.mp hn with h | h
          · exact List.mem_append_left _ (sub n h)
          · exact List.mem_append_right _ (by simpa using h)
      · exact ⟨s1, R1, kvs', ms, _, rfl, hD1, shs1, sok, by omega, fun n hn => by rw [List.take_succ]; exact List.mem_append_left _ (sub n hn)⟩
    · rintro z G ⟨s, RG, kvs', ms, v3, rfl, hDG, shs, sok, li, sub⟩
      have frzG := s _ _ nOL DD0.symm
      refine ⟨frzG, _, rfl, k D kvs' ms _ (fun b o e => ?_) (rng_upd RG Dp0) Dp ((upd_ne DD0).trans hDG) (shs.keep fun b xs e => by rw [upd_ne (fun z => by rw [z, frzG] at e; cases e)]; exact e) sok⟩
      obtain ⟨n, e⟩ := off_some e
      by_cases c : b = D0
      · subst c
        rw [upd_same, ← e, hD0]
      · rw [upd_ne c]
        exact s b o (by rw [off_ne n, eL, upd_ne c]; exact uD _ _ e) (ne_of_none e nD)
end
end K18
set_option maxHeartbeats 4000000
namespace K18
open PySem PySem.Spec PyProof.Rows L2 GL
abbrev sClaims : Stmt := tp 56
abbrev Row : Type := Str × Str × Rat
/-- conditions as the law has them: triples of a level, a side, a fraction -/
def ClAt (H : Hp) (v : V) (r : Row) : Prop := ∃ c q, v = .ref c ∧ H c = some (.tup [.str r.1, .str r.2.1, .ref q]) ∧ PartAt H q r.2.2
def ClsAt (H : Hp) : List V → List Row → Prop
  | [], [] => True
  | v :: t, r :: u => ClAt H v r ∧ ClsAt H t u
  | _, _ => False
theorem ClAt.keep {H H' : Hp} {v : V} {r : Row} (k : ∀ b xs, H b = some (.tup xs) → H' b = some (.tup xs)) (h : ClAt H v r) : ClAt H' v r := by
  obtain ⟨c, q, e, hc, hq⟩ := h
  exact ⟨c, q, e, k _ _ hc, k _ _ hq⟩
theorem ClsAt.keep {H H' : Hp} (k : ∀ b xs, H b = some (.tup xs) → H' b = some (.tup xs)) : ∀ {vs : List V} {rs : List Row}, ClsAt H vs rs → ClsAt H' vs rs
  | [], [], _ => trivial
  | _ :: _, _ :: _, ⟨h, t⟩ => ⟨h.keep k, t.keep k⟩
  | [], _ :: _, h => h.elim
  | _ :: _, [], h => h.elim
theorem ClsAt.len {H : Hp} : ∀ {vs : List V} {rs : List Row}, ClsAt H vs rs → vs.length = rs.length
  | [], [], _ => rfl
  | _ :: _, _ :: _, ⟨_, t⟩ => by rw [List.length_cons, List.length_cons, t.len]
  | [], _ :: _, h => h.elim
  | _ :: _, [], h => h.elim
theorem ClsAt.snoc {H : Hp} {v : V} {r : Row} (h : ClAt H v r) : ∀ {vs : List V} {rs : List Row}, ClsAt H vs rs → ClsAt H (vs ++ [v]) (rs ++ [r])
  | [], [], _ => ⟨h, trivial⟩
  | _ :: _, _ :: _, ⟨x, t⟩ => ⟨x, t.snoc h⟩
  | [], _ :: _, h => h.elim
  | _ :: _, [], h => h.elim
theorem ClsAt.at {H : Hp} : ∀ {vs : List V} {rs : List Row} {i : Nat} {v : V}, ClsAt H vs rs → vs[i]? = some v → ∃ r, rs[i]? = some r ∧ ClAt H v r
  | [], [], _, _, _, e => by cases e
  | _ :: _, r :: _, 0, _, ⟨h, _⟩, e => by
    cases e
    exact ⟨r, rfl, h⟩
  | _ :: _, _ :: _, i + 1, _, ⟨_, t⟩, e => t.at (i := i) e
  | [], _ :: _, _, _, h, _ => h.elim
  | _ :: _, [], _, _, h, _ => h.elim
/-- conditions that are right -/
structure ClOk (sp : Spd) (r : Row) : Prop where
  nm : r.1 ∈ sp.map (·.1)
  sd : sideB r.2.1 = true
  sz : Sz 80 r.2.2
section
variable {P : Program} {w : World} {K : PySem.W.Frag} {mg : Str → Option Value} {base : Heap}
def spClaims (K : PySem.W.Frag) : Sp := fun vs H Q _ => ∃ (p D0 : Addr) (kvs : List (Key × V)) (sp : Spd), vs = [.ref p, .ref D0] ∧ Rng H p ∧ D0 ≠ p ∧ H D0 = some (.dK kvs) ∧ SpsAt H kvs sp ∧ SpOk sp ∧
  ∀ l xs rows H', Same (off H p) H' → Rng H' p → l ≠ p → H' l = some (.lst xs) → ClsAt H' xs rows → rows.length ≤ 2 → (∀ r ∈ rows, ClOk sp r) → Q (.ref l) H'
abbrev nClaims : List Str := ["_law_pot_here", "_law_spans_here", "_law_found", "_law_turn", "_law_name_now", "_law_low", "_law_high", "_law_way"]
theorem scClaims : FnScope nClaims ["_law_pot_here", "_law_spans_here"] (defScope sClaims) := ⟨rfl, rfl, rfl, by decide +kernel, rfl, by decide +kernel, by decide +kernel⟩
theorem ok_claims {f : Addr} {fd : FuncData} (F : Fun K "_law_claims" "_law_claims" sClaims f fd) (T : Free mg) (srt : mg "sorted" = none) (dr : DefF P w K mg base "_law_draw" 1 ["_law_pot_here", "_law_many"] spDraw) (pk : DefF P w K mg base "_law_pick" 2 ["_law_pot_here", "_law_some"] (spChoice K)) (bt : DefF P w K mg base "_law_between" 2 ["_law_low", "_law_high", "_law_share"] (spBetween K)) : FnOk P w K mg base CX0 3 f fd ["_law_pot_here", "_law_spans_here"] (spClaims K) := by
  obtain ⟨fC, fdC, GC_, gC, bC, kC⟩ := pk
  obtain ⟨fD, fdD, GD, gD, bD, kD⟩ := dr
  obtain ⟨fB, fdB, GB_, gB, bB, kB⟩ := bt
  refine F.ok scClaims (fun vs H Q E h => ?_) (fun cdv A outer s H vs Q E hr h => ?_)
  · obtain ⟨p, D0, kvs, sp, rfl, _⟩ := h
    rfl
  · obtain ⟨p, D0, kvs, sp, rfl, R, Dp0, hD0, sps, ok, k⟩ := h
    have hu := hr.units
    have hu1 : (A.deeper (envOfC "_law_claims" (defScope sClaims) s.heap.objs.size f cdv)).units + 1 < cLine := by omega
    refine ⟨_, pss_cons (ps_set (i := 2) scClaims.nd rfl (Or.inl rfl) (pe_lst pa_nil))
      (pss_cons (ps_for PassesOwn.never rfl (pi_range1 (by rfl) T.range (pa_cons (pe_op op_mulW (pe_call GD (hr.mono (by decide)) rfl gD kD bD .nil pass0 (pa_cons (pv 0) (pa_cons pe_int pa_nil))) (pe_callTy call_int1 (by rfl) T.int (by decide +kernel) (pa_cons (pe_cmpR (op_neDc monB_flat eqB_flat (hr.mono (by decide))) (pv 1) pe_dnewK (nomark _)) pa_nil))) pa_nil)) (pg_name (i := 3) scClaims.nd rfl (Or.inl rfl))
        (pss_cons (ps_set (i := 4) scClaims.nd rfl (Or.inl rfl) (pe_call GC_ hr rfl gC kC bC .nil pass0 (pa_cons (pv 0) (pa_cons (pe_callB (call_sortedD rfl) (by rfl) srt (by decide +kernel) (pa_cons (pv 1) pa_nil)) pa_nil))))
        (pss_cons (ps_asg (pe_dget hu1 (pv 1) (pv 4) (fun _ _ => rfl)) (pg_tup (by rfl) (pgs_cons (pg_name (i := 5) scClaims.nd rfl (.inl rfl)) (pgs_cons (pg_name (i := 6) scClaims.nd rfl (.inl rfl)) pgs_nil))))
        (pss_cons (ps_set (i := 7) scClaims.nd rfl (Or.inl rfl) (pe_call GC_ hr rfl gC kC bC .nil pass0 (pa_cons (pv 0) (pa_cons (pe_lst (pa_cons pe_str (pa_cons pe_str (pa_cons pe_str (pa_cons pe_str pa_nil))))) pa_nil))))
        (pss_one (ps_expr (pe_bm PySem.F.plainAttrs_list PySem.F.slot_list_append PySem.F.type_list_append mt_append (pv 2) (pa_cons (pe_tup (pa_cons (pv 4) (pa_cons (pv 7) (pa_cons (pe_call GB_ hr rfl gB kB bB .nil pass0 (pa_cons (pv 5) (pa_cons (pv 6) (pa_cons (pe_op op_sub (pe_call GD (hr.mono (by decide)) rfl gD kD bD .nil pass0 (pa_cons (pv 0) (pa_cons pe_int pa_nil))) pe_int) pa_nil)))) pa_nil)))) pa_nil))))))))
      (pss_one (ps_ret (pv 2)))), ?_⟩
    refine ⟨(by show 0 ≤ sizeLine; decide), fun l nl => ?_⟩
    have ul := same_new (o := .lst []) nl
    have hl : upd H l (.lst []) l = some (.lst []) := upd_same
    have lp := R.ne_new' nl
    have lD : l ≠ D0 := (ne_of_none hD0 nl).symm
    have R1 := R.same' ul
    have nO : off H p l = none := by rw [off_ne lp]; exact nl
    have hD1 := ul _ _ hD0
    generalize upd H l (.lst []) = H1 at ul hl R1 hD1 ⊢
    refine ⟨_, rfl, p, 3, rfl, R1, by decide, by decide, fun d H2 d0 d1 kp R2 => ?_⟩
    refine ⟨_, rfl, fun e ne => ?_⟩
    have hD2 := kp _ _ hD1 Dp0
    have u3 := same_new (o := .dK []) ne
    have he : upd H2 e (.dK []) e = some (.dK []) := upd_same
    have hD3 := u3 _ _ hD2
    have hl3 := u3 _ _ (kp _ _ hl lp)
    have s3 : ∀ b o, H b = some o → b ≠ p → upd H2 e (.dK []) b = some o := fun b o eb n => u3 _ _ (kp _ _ (ul _ _ eb) n)
    have R3 := R2.same' u3
    generalize upd H2 e (.dK []) = H3 at he hD3 hl3 s3 R3 ⊢
    have lv : kvs.length = sp.length := sps.len
    refine ⟨decide (sp.length = 0), ⟨D0, e, kvs, [], rfl, rfl, hD3, he, fun z => ?_, fun z => ?_⟩, fun H4 s4 => .inr ⟨_, rfl, ?_⟩⟩
    · exact decide_eq_false (by rw [← lv]; exact z)
    · have k0 : kvs = [] := List.length_eq_zero_iff.mp z
      rw [decide_eq_true (by rw [← lv]; exact z), k0]
      exact .nil
    have hm : CMulW d (if (!decide (sp.length = 0)) = true then 1 else 0) := wide_mul (a := 10) (b := 10) (by omega) (by split <;> decide) (by decide) (by decide) (by decide)
    refine ⟨_, _, rfl, rfl, hm, ?_⟩
    obtain ⟨z, ez, z0, z2, zs⟩ : ∃ z : Int, z = d * (if (!decide (sp.length = 0)) = true then 1 else 0) ∧ 0 ≤ z ∧ z ≤ 2 ∧ (0 < z → sp.length ≠ 0) := by
      refine ⟨_, rfl, ?_, ?_, ?_⟩
      · split <;> omega
      · split <;> omega
      · split
        · rename_i c
          intro _
          simpa using c
        · omega
    refine ⟨z, (by rw [ez]), by omega, by omega, ?_⟩
    have R4 := R3.same' s4
    have nO2 := nO
    have sA : Same (off H p) H4 := fun b o eb => s4 _ _ (s3 b o (off_some eb).2 (off_some eb).1)
    have hl4 := s4 _ _ hl3
    refine for_range (lo := 0) (n := z.toNat) (fun i σ G => Same (off H p) G ∧ Rng G p ∧ ∃ xs rows v3 v4 v5 v6 v7, σ = [some (.ref p), some (.ref D0), some (.ref l), v3, v4, v5, v6, v7] ∧ G l = some (.lst xs) ∧ ClsAt G xs rows ∧ rows.length = i ∧ ∀ r ∈ rows, ClOk sp r) ⟨sA, R4, [], [], _, _, _, _, _, rfl, hl4, trivial, rfl, fun r hr => by cases hr⟩ ?_ ?_
    · rintro i σ G hi ⟨s, RG, xs, rows, v3, v4, v5, v6, v7, rfl, hlG, cls, li, cok⟩
      have sne : sp.length ≠ 0 := zs (by omega)
      have l3 := ok.l3
      have oD0 : off H p D0 = some (.dK kvs) := by rw [off_ne Dp0]; exact hD0
      have tG : ∀ b xs, H b = some (.tup xs) → off H p b = some (.tup xs) := fun b xs e => by rw [off_ne (R.ne e)]; exact e
      refine ⟨_, rfl, _, rfl, D0, kvs, sp.map (·.1), rfl, .of (s _ _ oD0), sps.keys, by rw [List.length_map]; omega, fun ys q pm so nq => ?_⟩
      have u5 := same_new (o := .lst (ys.map V.str)) nq
      have hq5 : upd G q (.lst (ys.map V.str)) q = some (.lst (ys.map V.str)) := upd_same
      have qp := RG.ne_new' nq
      have A5 := (At.nil RG).same u5
      have hl5 := u5 _ _ hlG
      have ll : ys.length = sp.length := by rw [pm.length_eq, List.length_map]
      generalize upd G q (.lst (ys.map V.str)) = G5 at A5 hq5 hl5 u5 ⊢
      refine ⟨p, q, _, rfl, A5.r, hq5, qp, by rw [List.length_map]; omega, by rw [List.length_map]; omega, fun v G6 mv kp6 R6 => ?_⟩
      obtain ⟨u, hu6, rfl⟩ := List.mem_map.mp mv
      have hu7 : u ∈ sp.map (·.1) := pm.mem_iff.mp hu6
      obtain ⟨lo, hi_, c, a, b, mem, _, ev, hc, ha, hb⟩ := sps.look hu7
      obtain ⟨sl, sh_, le⟩ := ok.ok _ mem
      have A6 := A5.kp kp6 R6
      have s6 : Same (off H p) G6 := fun b o eb => kp6 _ _ (u5 _ _ (s _ _ eb)) (off_some eb).1
      have hl6 := kp6 _ _ hl5 lp
      have cls6 : ClsAt G6 xs rows := cls.keep fun b xs e => kp6 _ _ (u5 _ _ e) (RG.ne e)
      refine ⟨_, rfl, _, rfl, D0, .ref c, rfl, .inl ⟨kvs, .inr u, .of (s6 _ _ oD0), rfl, ev.symm⟩, c, _, rfl, SqT.of (s6 _ _ (tG _ _ hc)), rfl, _, _, rfl, _, _, rfl, rfl, ?_⟩
      refine ⟨_, rfl, (by show 4 ≤ sizeLine; decide), fun q2 n7 => ?_⟩
      have u7 := same_new (o := .lst [V.str "from", .str "above", .str "to", .str "below"]) n7
      have hq7 : upd G6 q2 (.lst [V.str "from", .str "above", .str "to", .str "below"]) q2 = some (.lst [V.str "from", .str "above", .str "to", .str "below"]) := upd_same
      have qp7 := R6.ne_new' n7
      have R7 := R6.same' u7
      generalize upd G6 q2 (.lst [V.str "from", .str "above", .str "to", .str "below"]) = G7 at u7 hq7 R7 ⊢
      refine ⟨p, q2, _, rfl, R7, hq7, qp7, by show 0 < 4; decide, by show 4 < 1000; decide, fun v G8 mv8 kp8 R8 => ?_⟩
      obtain ⟨sd, rfl, hsd⟩ : ∃ sd, v = .str sd ∧ sideB sd = true := by
        simp only [List.mem_cons, List.not_mem_nil, or_false] at mv8
        rcases mv8 with rfl | rfl | rfl | rfl <;> exact ⟨_, rfl, by decide +kernel⟩
      have s8 : Same (off H p) G8 := fun b o eb => kp8 _ _ (u7 _ _ (s6 _ _ eb)) (off_some eb).1
      have hl8 := kp8 _ _ (u7 _ _ hl6) lp
      have cls8 : ClsAt G8 xs rows := cls6.keep fun b xs e => kp8 _ _ (u7 _ _ e) (R6.ne e)
      refine ⟨_, rfl, .inl ⟨rfl, _, SqL.of hl8⟩, _, rfl, _, rfl, _, rfl, _, rfl, _, rfl, p, 7, rfl, R8, by decide, by decide, fun d9 G9 x9 y9 kp9 R9 => ?_⟩
      have s9 : Same (off H p) G9 := fun b o eb => kp9 _ _ (s8 _ _ eb) (off_some eb).1
      refine ⟨_, _, rfl, rfl, a, b, lo, hi_, d9 - 1, rfl, s9 _ _ (tG _ _ ha), s9 _ _ (tG _ _ hb), sl, sh_, by omega, by omega, fun q3 Ga ka na ha3 => ?_⟩
      refine ⟨(by show 3 ≤ sizeLine; decide), fun t nt => ?_⟩
      have ub := same_new (o := .tup [V.str u, .str sd, .ref q3]) nt
      have ht : upd Ga t (.tup [V.str u, .str sd, .ref q3]) t = some (.tup [V.str u, .str sd, .ref q3]) := upd_same
      have hlb := ub _ _ (ka _ _ (kp9 _ _ hl8 lp))
      have Rb := (R9.same' ka).same' ub
      have sb : Same (off H p) (upd Ga t (.tup [V.str u, .str sd, .ref q3])) := fun b o eb => ub _ _ (ka _ _ (s9 _ _ eb))
      have clsb : ClsAt (upd Ga t (.tup [V.str u, .str sd, .ref q3])) xs rows := cls8.keep fun b xs e => ub _ _ (ka _ _ (kp9 _ _ e (R8.ne e)))
      have hb3 := ub _ _ ha3
      generalize upd Ga t (.tup [V.str u, .str sd, .ref q3]) = Gb at hlb ht Rb sb clsb hb3 ⊢
      refine ⟨l, _, _, rfl, rfl, hlb, by rw [cls.len, li, sizeLine_eq]; omega, ?_⟩
      have kT : ∀ b ys, Gb b = some (.tup ys) → upd Gb l (.lst (xs ++ [.ref t])) b = some (.tup ys) := fun b ys e => by
        rw [upd_ne (fun z => by rw [z, hlb] at e; cases e)]
        exact e
      refine ⟨fun b o eb => ?_, rng_upd Rb lp, _, rows ++ [(u, sd, betw lo hi_ (d9 - 1))], _, _, _, _, _, rfl, upd_same, (clsb.keep kT).snoc ⟨t, q3, rfl, kT _ _ ht, kT _ _ hb3⟩, by rw [List.length_append, li]; rfl, fun r hr => ?_⟩
      · rw [upd_ne (fun z => by rw [z, nO] at eb; cases eb)]
        exact sb _ _ eb
      · rcases List.mem_append.mp hr with h | h
        · exact cok r h
        · rw [List.mem_singleton.mp h]
          exact ⟨hu7, hsd, betw_sz sl sh_ (by omega) (by omega)⟩
    · rintro σ G ⟨s, RG, xs, rows, v3, v4, v5, v6, v7, rfl, hlG, cls, li, cok⟩
      exact ⟨_, rfl, k l xs rows G s RG lp hlG cls (by omega) cok⟩
end
end K18
set_option maxHeartbeats 4000000
namespace K18
open PySem PySem.Spec PyProof.Rows L2 GL
abbrev sLMove : Stmt := tp 57
abbrev sHolds : Stmt := tp 58
abbrev sLRow : Stmt := tp 59
abbrev sTold : Stmt := tp 60
theorem nd_fa : ¬ (Str.ofString "from" = Str.ofString "above") := by decide +kernel
theorem nd_ft : ¬ (Str.ofString "from" = Str.ofString "to") := by decide +kernel
theorem nd_fb : ¬ (Str.ofString "from" = Str.ofString "below") := by decide +kernel
theorem nd_at : ¬ (Str.ofString "above" = Str.ofString "to") := by decide +kernel
theorem nd_ab : ¬ (Str.ofString "above" = Str.ofString "below") := by decide +kernel
theorem nd_tb : ¬ (Str.ofString "to" = Str.ofString "below") := by decide +kernel
theorem sideB_cases {z : Str} (h : sideB z = true) : z = "from" ∨ z = "above" ∨ z = "to" ∨ z = "below" := by
  unfold sideB inV sidesL at h
  simp only [List.map_cons, List.map_nil, List.any_cons, List.any_nil, Bool.or_eq_true, Bool.or_false] at h
  rcases h with h | h | h | h
  · exact .inl (of_decide_eq_true ((eqV_str _ _).symm.trans h)).symm
  · exact .inr (.inl (of_decide_eq_true ((eqV_str _ _).symm.trans h)).symm)
  · exact .inr (.inr (.inl (of_decide_eq_true ((eqV_str _ _).symm.trans h)).symm))
  · exact .inr (.inr (.inr (of_decide_eq_true ((eqV_str _ _).symm.trans h)).symm))
section
variable {K : PySem.W.Frag}
theorem made_movR {H : Hp} {R : VK} {E : XK} {x dx : Addr} {d : Int} {y z v : V} {u q r : Rat} (hx : H x = none) (hd : H dx = none) (d1 : 1 ≤ d) (hu : NumAt K H y u) (hq : NumAt K H z q) (hr : NumAt K H v r) (sq : Sz 100000 q) (sr : Sz 100000 r) (le : rBelow r q = false)
    (k : ∀ H', Same H H' → MovD K H' x (d, u, q, r) → R .non H') :
    spMInit K [.ref x, .int d, y, z, v] (upd (upd H dx (.own x)) x (.ins (aM K) dx [])) R E := by
  have up : Same H (upd (upd H dx (.own x)) x (.ins (aM K) dx [])) := fun b o e => by rw [upd_ne (ne_of_none e hx), upd_ne (ne_of_none e hd)]; exact e
  exact ⟨x, dx, d, y, z, v, u, q, r, rfl, upd_same, d1, hu.same up, hq.same up, hr.same up, sq, sr, le, fun H' kp e => k H' (fun c o ec => kp c o (ne_of_none ec hx) (up _ _ ec)) e⟩
/-- Move is made -/
structure MkM (P : Program) (w : World) (K : PySem.W.Frag) (mg : Str → Option Value) (base : Heap) : Prop where
  T : MF K mg
  mM : ∃ f fd, Mk K (aM K) f ∧ FnOk P w K mg base CX0 6 f fd ["self", "divisor", "plus", "low", "high"] (spMInit K) ∧ Binds K fd ["self", "divisor", "plus", "low", "high"] []
end
section
variable {P : Program} {w : World} {K : PySem.W.Frag} {mg : Str → Option Value} {base : Heap}
/-! ### a move of these parts -/
def spLMove (K : PySem.W.Frag) : Sp := fun vs H Q _ => ∃ (p c : Addr) (m : Mvd), vs = [.ref p, .ref c] ∧ Rng H p ∧ ShAt H c m ∧ ShOk m ∧ ∀ g H', Same (off H p) H' → Rng H' p → MovD K H' g m → Q (.ref g) H'
theorem scLMove : FnScope ["_law_pot_here", "_law_shift_here"] ["_law_pot_here", "_law_shift_here"] (defScope sLMove) := ⟨rfl, rfl, rfl, by decide +kernel, rfl, by decide +kernel, by decide +kernel⟩
theorem ok_lmove {f : Addr} {fd : FuncData} (F : Fun K "_law_move" "_law_move" sLMove f fd) (M : MkM P w K mg base) (gv : DefF P w K mg base "_law_given" 4 ["_law_pot_here", "_law_pair"] (spGiven K)) : FnOk P w K mg base CX0 8 f fd ["_law_pot_here", "_law_shift_here"] (spLMove K) := by
  obtain ⟨fG, fdG, GG_, gG, bG, kG⟩ := gv
  obtain ⟨fM, fdM, MM, GM, bM⟩ := M.mM
  have TM := M.T
  refine F.ok scLMove (fun vs H Q E h => ?_) (fun cdv A outer s H vs Q E hr h => ?_)
  · obtain ⟨p, c, m, rfl, _⟩ := h
    rfl
  · obtain ⟨p, c, m, rfl, R, ⟨a, b, d, hc, ha, hb, hd⟩, ok, k⟩ := h
    refine ⟨_, pss_one (ps_ret (pe_make MM GM (hr.mono (by decide)) rfl TM.gM bM .nil pass0 (pa_cons (pe_ix ix_tup (pv 1) pe_int (fun _ _ => rfl)) (pa_cons (pe_call GG_ (hr.mono (by decide)) rfl gG kG bG .nil pass0 (pa_cons (pv 0) (pa_cons (pe_ix ix_tup (pv 1) pe_int (fun _ _ => rfl)) pa_nil)))
      (pa_cons (pe_call GG_ (hr.mono (by decide)) rfl gG kG bG .nil pass0 (pa_cons (pv 0) (pa_cons (pe_ix ix_tup (pv 1) pe_int (fun _ _ => rfl)) pa_nil))) (pa_cons (pe_call GG_ (hr.mono (by decide)) rfl gG kG bG .nil pass0 (pa_cons (pv 0) (pa_cons (pe_ix ix_tup (pv 1) pe_int (fun _ _ => rfl)) pa_nil))) pa_nil)))))), ?_⟩
    have oT : ∀ b xs, H b = some (.tup xs) → off H p b = some (.tup xs) := fun b xs e => by rw [off_ne (R.ne e)]; exact e
    refine ⟨_, rfl, c, _, _, _, rfl, rfl, SqT.of hc, rfl, ?_⟩
    refine ⟨_, rfl, _, rfl, c, _, _, _, rfl, rfl, SqT.of hc, rfl, p, a, m.2.1, rfl, R, ha, ok.u.mono (by decide), fun x H1 s1 R1 n1 => ?_⟩
    have n1z := n1.zp R1
    refine ⟨_, rfl, _, rfl, c, _, _, _, rfl, rfl, SqT.of (s1 _ _ (oT _ _ hc)), rfl, p, b, m.2.2.1, rfl, R1, s1 _ _ (oT _ _ hb), ok.lo.mono (by decide), fun y H2 s2 R2 n2 => ?_⟩
    have n2z := n2.zp R2
    have s12 : Same (off H p) H2 := fun b o e => s2 b o (by rw [off_ne (off_some e).1]; exact s1 b o e)
    refine ⟨_, rfl, _, rfl, c, _, _, _, rfl, rfl, SqT.of (s12 _ _ (oT _ _ hc)), rfl, p, d, m.2.2.2, rfl, R2, s12 _ _ (oT _ _ hd), ok.hi.mono (by decide), fun z H3 s3 R3 n3 => ?_⟩
    have s13 : Same (off H p) H3 := fun b o e => s3 b o (by rw [off_ne (off_some e).1]; exact s12 b o e)
    intro g dg hg hdg neg
    refine made_movR hg hdg ok.d1 (((n1z.same (Zp.offs s2)).same (Zp.offs s3)).same (Zp.to p H3)) ((n2z.same (Zp.offs s3)).same (Zp.to p H3)) n3 (ok.lo.mono (by decide)) (ok.hi.mono (by decide)) ok.le fun H4 s4 hm => ⟨rfl, ?_⟩
    exact k g H4 (fun b o e => s4 _ _ (s13 b o e)) (R3.same' s4) hm
/-! ### whether a condition is true -/
def spHolds (K : PySem.W.Frag) : Sp := fun vs H Q _ => ∃ (c : V) (D : Addr) (kvs : List (Key × V)) (r : Row) (t : Addr) (x : Rat), vs = [c, .ref D] ∧ ClAt H c r ∧ sideB r.2.1 = true ∧ Sz 1000 r.2.2 ∧ H D = some (.dK kvs) ∧ valV kvs (Sum.inr r.1) = some (.ref t) ∧ PartAt H t x ∧ Sz 1000 x ∧ ∀ H', Same H H' → Q (.bl (holdB r x)) H'
abbrev nHolds : List Str := ["_law_claim", "_law_numbers", "_law_here", "_law_is_under", "_law_is_over"]
theorem scHolds : FnScope nHolds ["_law_claim", "_law_numbers"] (defScope sHolds) := ⟨rfl, rfl, rfl, by decide +kernel, rfl, by decide +kernel, by decide +kernel⟩
theorem ok_holds {f : Addr} {fd : FuncData} (F : Fun K "_law_holds" "_law_holds" sHolds f fd) (ls : DefF P w K mg base "_law_less" 1 ["_law_one", "_law_beside"] (spLess K)) : FnOk P w K mg base CX0 2 f fd ["_law_claim", "_law_numbers"] (spHolds K) := by
  obtain ⟨fL, fdL, GL_, gL, bL, kL⟩ := ls
  refine F.ok scHolds (fun vs H Q E h => ?_) (fun cdv A outer s H vs Q E hr h => ?_)
  · obtain ⟨c, D, kvs, r, t, x, rfl, _⟩ := h
    rfl
  · obtain ⟨_, D, kvs, r, t, x, rfl, ⟨c, q, rfl, hc, hq⟩, sd, sr, hD, ev, ht, sx, k⟩ := h
    have hu := hr.units
    have hu1 : (A.deeper (envOfC "_law_holds" (defScope sHolds) s.heap.objs.size f cdv)).units + 1 < cLine := by omega
    refine ⟨_, pss_cons (ps_set (i := 2) scHolds.nd rfl (Or.inl rfl) (pe_dget hu1 (pv 1) (pe_ix ix_tup (pv 0) pe_int (fun _ _ => rfl)) (fun _ _ => rfl)))
      (pss_cons (ps_par (i := 3) (j := 4) (by rfl) scHolds.nd rfl rfl (by decide) rfl rfl (pa_cons (pe_call GL_ hr rfl gL kL bL .nil pass0 (pa_cons (pv 2) (pa_cons (pe_ix ix_tup (pv 0) pe_int (fun _ _ => rfl)) pa_nil))) (pa_cons (pe_call GL_ hr rfl gL kL bL .nil pass0 (pa_cons (pe_ix ix_tup (pv 0) pe_int (fun _ _ => rfl)) (pa_cons (pv 2) pa_nil))) pa_nil)) (by rfl))
      (pss_one (ps_ret (pe_dget hu1 (pe_disp (pps_cons pe_str (pe_not (pv 3)) (pps_cons pe_str (pv 4) (pps_cons pe_str (pe_not (pv 4)) (pps_cons pe_str (pv 3) pps_nil)))) (by rfl) (by rfl) (fun z => by cases z) (by decide)) (pe_ix ix_tup (pv 0) pe_int (fun _ _ => rfl)) (fun _ _ => rfl))))), ?_⟩
    refine ⟨_, rfl, _, rfl, c, _, _, _, rfl, rfl, SqT.of hc, rfl, D, .ref t, rfl, .inl ⟨kvs, .inr r.1, .of hD, rfl, ev.symm⟩, ?_⟩
    refine ⟨_, rfl, _, rfl, c, _, _, _, rfl, rfl, SqT.of hc, rfl, t, q, x, r.2.2, rfl, ht, hq, sx, sr, ?_⟩
    refine ⟨_, rfl, c, _, _, _, rfl, rfl, SqT.of hc, rfl, _, rfl, q, t, r.2.2, x, rfl, hq, ht, sr, sx, _, _, rfl, ?_⟩
    intro e ne
    obtain ⟨kd, ekd⟩ : ∃ kd : List (Key × V), kd = [(Sum.inr ("from" : Str), V.bl (!rBelow x r.2.2)), (Sum.inr ("above" : Str), V.bl (rBelow r.2.2 x)), (Sum.inr ("to" : Str), V.bl (!rBelow r.2.2 x)), (Sum.inr ("below" : Str), V.bl (rBelow x r.2.2))] := ⟨_, rfl⟩
    refine ⟨_, rfl, _, rfl, _, rfl, _, rfl, _, rfl, _, rfl, upd_same, kd, by rw [ekd]; rfl, by rw [ekd]; show 4 ≤ 15; decide, ?_⟩
    have ue := same_new (o := .dK []) ne
    have sE : Same H (upd (upd H e (.dK [])) e (.dK (mergeK [] kd))) := fun b o eb => by
      rw [upd_upd, upd_ne (ne_of_none eb ne)]
      exact eb
    have he : upd (upd H e (.dK [])) e (.dK (mergeK [] kd)) e = some (.dK (mergeK [] kd)) := upd_same
    generalize upd (upd H e (.dK [])) e (.dK (mergeK [] kd)) = H1 at sE he ⊢
    have em : mergeK [] kd = kd := by
      rw [ekd]
      simp [mergeK, putK, nd_fa, nd_ft, nd_fb, nd_at, nd_ab, nd_tb]
    rw [em] at he
    have look : valV kd (Sum.inr r.2.1) = some (.bl (holdB r x)) := by
      obtain ⟨n, sdd, qq⟩ := r
      rw [ekd]
      rcases sideB_cases sd with e | e | e | e <;> (dsimp only at e; subst e)
      · rw [valV_pos rfl]
        have h : holdB (n, "from", qq) x = decide (cAbove x qq false = true) := rfl
        rw [h]
        unfold cAbove
        simp
      · rw [valV_neg (fun z => nd_fa (Sum.inr.inj z)), valV_pos rfl]
        have h : holdB (n, "above", qq) x = decide (cAbove x qq true = true) := rfl
        rw [h]
        unfold cAbove
        simp
      · rw [valV_neg (fun z => nd_ft (Sum.inr.inj z)), valV_neg (fun z => nd_at (Sum.inr.inj z)), valV_pos rfl]
        have h : holdB (n, "to", qq) x = decide (cAbove x qq true = false) := rfl
        rw [h]
        unfold cAbove
        simp
      · rw [valV_neg (fun z => nd_fb (Sum.inr.inj z)), valV_neg (fun z => nd_ab (Sum.inr.inj z)), valV_neg (fun z => nd_tb (Sum.inr.inj z)), valV_pos rfl]
        have h : holdB (n, "below", qq) x = decide (cAbove x qq false = false) := rfl
        rw [h]
        unfold cAbove
        simp
    exact ⟨_, rfl, c, _, _, _, rfl, rfl, SqT.of (sE _ _ hc), rfl, e, _, rfl, .inl ⟨kd, .inr r.2.1, .of he, rfl, look.symm⟩, k _ sE⟩
end
end K18
set_option maxHeartbeats 4000000
/-! o.m(e, ..) in a try: what goes out is asked at the slots of the moment. -/
namespace GL
open PySem PySem.Spec PyProof.Rows L2
def tMethW (C : Addr) (m : Str) (sp : Sp) (E : L2.St → XK) (ta : TE) (t : TA) : TE := fun σ H Q => ta σ H fun x H1 => ∃ (a dx : Addr) (fs : List (Str × V)), x = .ref a ∧ H1 a = some (.ins C dx fs) ∧ fs.lookup m = none ∧ t σ H1 fun vs H2 => sp (.ref a :: vs) H2 Q (E σ)
theorem pe_methW {X : Cx} {CX : CXT} {k : Nat} {f C : Addr} {fd : FuncData} {ps : List Str} {sp : Sp} {E : L2.St → XK} {m : Str} {pos apos : Pos} {e o : Expr} {es : List Expr} {ta : TE} {t : TA} {pl : Sem Bool} (he : PE X o ta) (c : Cls X.K C) (hm : Meth X.K C m f) (F : FnOk X.prog X.w X.K X.mg X.base CX k f fd ps sp) (hr : Room k X.A) (hb : Binds X.K fd ps [])
    (hx : ∀ σ, PassesAt CX X σ (E σ)) (ha : PA X (e :: es) t)
    (e1 : starEach (e :: es) X.env = (false, eval e X.env) :: starEach es X.env := by rfl) (e2 : (backTo pos (starEach es X.env)).any (·.1) = false := by rfl)
    (e3 : eval (.Call (.Attribute o m apos) (e :: es) [] pos) X.env = (do
      let y ← eval o X.env
      standAt apos.atName
      let (g, before) ← holding [y] (getMethod y m pl)
      callWith pos g before (backTo pos (starEach (e :: es) X.env)) (backToKw pos (keywordEach [] X.env))) := by rfl) : PE X (.Call (.Attribute o m apos) (e :: es) [] pos) (tMethW C m sp E ta t) := by
  constructor
  intro pn s0 z G R J h
  refine PySem.W.methodCall_KW (pl := pl) (thn (he.run pn s0 z G _ J h) ?_) e3
  rintro u s1 ⟨x, G1, J1, rx, a, dx, fs, ex, ea, no, q⟩
  subst ex
  cases (show u = Value.ref a from rx)
  refine getmeth_ok J1 ea c hm no (PySem.W.callWith_K (first := [.ref a]) (h₀ := X.base) J.ok.mod.kin hm.kp (thn (ha.run pos pn s1 z G1 _ J1 q) ?_) e1 e2)
  rintro us s2 ⟨vs, G2, J2, r, q2⟩
  exact ⟨J2.kIn, run_fnS (us := .ref a :: us) (vs := .ref a :: vs) F hr hb (hx z) J2 (.cons rfl r) q2⟩
end GL
set_option maxHeartbeats 4000000
namespace K18
open PySem PySem.Spec PyProof.Rows L2 GL
section
variable {P : Program} {w : World} {K : PySem.W.Frag} {mg : Str → Option Value} {base : Heap}
/-! ### a rule's parts, drawn -/
/-- what _law_row makes -/
structure RowAt (H : Hp) (c Ds lc Dm : Addr) (kvs kvm : List (Key × V)) (xs : List V) (sp : Spd) (rows : List Row) (g a : Str) (ms : List (Str × Mvd)) : Prop where
  c : H c = some (.tup [.ref Ds, .ref lc, .str g, .str a, .ref Dm])
  ds : H Ds = some (.dK kvs)
  sps : SpsAt H kvs sp
  sok : SpOk sp
  lc : H lc = some (.lst xs)
  cls : ClsAt H xs rows
  l2 : rows.length ≤ 2
  cok : ∀ r ∈ rows, ClOk sp r
  ng : NameS g
  na : NameS a
  dm : H Dm = some (.dK kvm)
  shs : ShsAt H kvm ms
  mok : ShsOk ms
  zg : (reprText g).length ≤ 200
  za : (reprText a).length ≤ 200
theorem RowAt.same {H H' : Hp} {c Ds lc Dm : Addr} {kvs kvm : List (Key × V)} {xs : List V} {sp : Spd} {rows : List Row} {g a : Str} {ms : List (Str × Mvd)} (h : RowAt H c Ds lc Dm kvs kvm xs sp rows g a ms) (k : Same H H') : RowAt H' c Ds lc Dm kvs kvm xs sp rows g a ms :=
  ⟨k _ _ h.c, k _ _ h.ds, h.sps.same k, h.sok, k _ _ h.lc, h.cls.keep fun b xs e => k _ _ e, h.l2, h.cok, h.ng, h.na, k _ _ h.dm, h.shs.same k, h.mok, h.zg, h.za⟩
def spLRow (K : PySem.W.Frag) : Sp := fun vs H Q _ => ∃ p : Addr, vs = [.ref p] ∧ Rng H p ∧ ∀ c Ds lc Dm kvs kvm xs sp rows g a ms H', Same (off H p) H' → Rng H' p → RowAt (Zp p H') c Ds lc Dm kvs kvm xs sp rows g a ms → g ∉ [("zz" : Str)] → a ∉ ([("zz" : Str), "q"] : List Str) → Q (.ref c) H'
abbrev nLRow : List Str := ["_law_pot_here", "_law_spans_here", "_law_names"]
theorem scLRow : FnScope nLRow ["_law_pot_here"] (defScope sLRow) := ⟨rfl, rfl, rfl, by decide +kernel, rfl, by decide +kernel, by decide +kernel⟩
theorem ok_lrow {f : Addr} {fd : FuncData} (F : Fun K "_law_row" "_law_row" sLRow f fd) (pk : DefF P w K mg base "_law_pick" 2 ["_law_pot_here", "_law_some"] (spChoice K)) (sp_ : DefF P w K mg base "_law_spans" 3 ["_law_pot_here"] (spSpans K)) (cl : DefF P w K mg base "_law_claims" 3 ["_law_pot_here", "_law_spans_here"] (spClaims K)) (sh : DefF P w K mg base "_law_shifts" 4 ["_law_pot_here", "_law_spans_here"] (spShifts K)) : FnOk P w K mg base CX0 5 f fd ["_law_pot_here"] (spLRow K) := by
  obtain ⟨fC, fdC, GC_, gC, bC, kC⟩ := pk
  obtain ⟨fS, fdS, GS_, gS, bS, kS⟩ := sp_
  obtain ⟨fL, fdL, GL_, gL, bL, kL⟩ := cl
  obtain ⟨fM, fdM, GM_, gM, bM, kM⟩ := sh
  refine F.ok scLRow (fun vs H Q E h => ?_) (fun cdv A outer s H vs Q E hr h => ?_)
  · obtain ⟨p, rfl, _⟩ := h
    rfl
  · obtain ⟨p, rfl, R, k⟩ := h
    refine ⟨_, pss_cons (ps_set (i := 1) scLRow.nd rfl (Or.inl rfl) (pe_call GS_ (hr.mono (by decide)) rfl gS kS bS .nil pass0 (pa_cons (pv 0) pa_nil)))
      (pss_cons (ps_set (i := 2) scLRow.nd rfl (Or.inl rfl) (pe_lst (pa_cons (pe_call GC_ (hr.mono (by decide)) rfl gC kC bC .nil pass0 (pa_cons (pv 0) (pa_cons (pe_lst (pa_cons pe_str (pa_cons pe_str (pa_cons pe_str pa_nil)))) pa_nil))) (pa_cons (pe_call GC_ (hr.mono (by decide)) rfl gC kC bC .nil pass0 (pa_cons (pv 0) (pa_cons (pe_lst (pa_cons pe_str (pa_cons pe_str pa_nil))) pa_nil))) pa_nil))))
      (pss_one (ps_ret (pe_tup (pa_cons (pv 1) (pa_cons (pe_call GL_ (hr.mono (by decide)) rfl gL kL bL .nil pass0 (pa_cons (pv 0) (pa_cons (pv 1) pa_nil))) (pa_cons (pe_ix ix_list (pv 2) pe_int (fun _ _ => rfl)) (pa_cons (pe_ix ix_list (pv 2) pe_int (fun _ _ => rfl)) (pa_cons (pe_call GM_ hr rfl gM kM bM .nil pass0 (pa_cons (pv 0) (pa_cons (pv 1) pa_nil))) pa_nil))))))))), ?_⟩
    refine ⟨_, rfl, p, rfl, R, fun Ds kvs sp H1 s1 R1 Dp hD sps sok => ?_⟩
    have A1 : At p H1 H1 [(Ds, .dK kvs)] := (At.nil R1).add hD Dp (fun _ z => by cases z)
    refine ⟨_, rfl, (by show 3 ≤ sizeLine; decide), fun l1 n1 => ?_⟩
    have A2 := A1.new (o := .lst [V.str "calm", .str "a.b", .str "abcdefgh.z"]) n1 (fun _ z => by cases z)
    refine ⟨p, l1, _, rfl, A2.r, upd_same, A1.r.ne_new' n1, by show 0 < 3; decide, by show 3 < 1000; decide, fun v H3 mv kp3 R3 => ?_⟩
    have A3 := (A2.kp kp3 R3).drop 1
    obtain ⟨g, rfl, ng, gz, zg⟩ : ∃ g, v = .str g ∧ NameS g ∧ g ∉ [("zz" : Str)] ∧ (reprText g).length ≤ 200 := by
      simp only [List.mem_cons, List.not_mem_nil, or_false] at mv
      rcases mv with rfl | rfl | rfl <;> exact ⟨_, rfl, NameS.of (by decide +kernel), by decide +kernel, by decide +kernel⟩
    refine ⟨_, rfl, (by show 2 ≤ sizeLine; decide), fun l2 n2 => ?_⟩
    have A4 := A3.new (o := .lst [V.str "no", .str "yes.b"]) n2 (fun _ z => by cases z)
    refine ⟨p, l2, _, rfl, A4.r, upd_same, A3.r.ne_new' n2, by show 0 < 2; decide, by show 2 < 1000; decide, fun v H4 mv kp4 R4 => ?_⟩
    have A5 := (A4.kp kp4 R4).drop 1
    obtain ⟨a, rfl, na, az, za⟩ : ∃ g, v = .str g ∧ NameS g ∧ g ∉ ([("zz" : Str), "q"] : List Str) ∧ (reprText g).length ≤ 200 := by
      simp only [List.mem_cons, List.not_mem_nil, or_false] at mv
      rcases mv with rfl | rfl <;> exact ⟨_, rfl, NameS.of (by decide +kernel), by decide +kernel, by decide +kernel⟩
    refine ⟨(by show 2 ≤ sizeLine; decide), fun l3 n3 => ?_⟩
    have A6 := A5.new (o := .lst [V.str g, .str a]) n3 (fun _ z => by cases z)
    generalize upd H4 l3 (.lst [V.str g, .str a]) = H5 at A6 ⊢
    have sps5 := sps.same (Zp.offs A6.s)
    refine ⟨_, rfl, _, rfl, _, rfl, p, Ds, kvs, sp, rfl, A6.r, Dp, A6.at (i := 1) rfl, sps5.same (Zp.to p H5), sok, fun lc xs rows H6 s6 R6 lcp hlc cls l2 cok => ?_⟩
    have A7 := (A6.offs s6 R6).add hlc lcp (fun _ z => by cases z)
    refine ⟨_, rfl, l3, _, _, _, rfl, rfl, SqL.of (A7.at (i := 1) rfl), rfl, _, rfl, l3, _, _, _, rfl, rfl, SqL.of (A7.at (i := 1) rfl), rfl, ?_⟩
    have sps6 := sps5.same (Zp.offs s6)
    refine ⟨_, rfl, _, rfl, p, Ds, kvs, sp, rfl, R6, Dp, A7.at (i := 2) rfl, sps6.same (Zp.to p H6), sok, fun Dm kvm ms H7 s7 R7 Dmp hDm shs mok => ?_⟩
    have A8 := (A7.offs s7 R7).add hDm Dmp (fun _ z => by cases z)
    have cls7 : ClsAt (Zp p H7) xs rows := cls.keep fun b xs e => (Zp.offs s7) _ _ (R6.zp_tup e)
    have shs7 : ShsAt (Zp p H7) kvm ms := shs.keep fun b xs e => R7.zp_tup e
    refine ⟨(by show 5 ≤ sizeLine; decide), fun c nc => ?_⟩
    have A9 := A8.new (o := .tup [V.ref Ds, .ref lc, .str g, .str a, .ref Dm]) nc (fun _ z => by cases z)
    have u := same_new (o := .tup [V.ref Ds, .ref lc, .str g, .str a, .ref Dm]) nc
    refine k c Ds lc Dm kvs kvm xs sp rows g a ms _ (fun b o e => A9.s b o (by rw [off_ne (off_some e).1]; exact s1 b o e)) A9.r ⟨A9.get (i := 0) rfl, A9.get (i := 4) rfl, (sps6.same (Zp.offs s7)).same (Zp.same u), sok, A9.get (i := 2) rfl, cls7.keep fun b xs e => Zp.same u _ _ e, l2, cok, ng, na, A9.get (i := 1) rfl, shs7.same (Zp.same u), mok, zg, za⟩ gz az
/-! ### what applies tells -/
/-- what the law hears -/
structure LTo (P : Program) (w : World) (K : PySem.W.Frag) (mg : Str → Option Value) (base : Heap) : Prop where
  U : UF K mg
  E : EU P w K mg base
  ap : ∃ f fd, Meth K (aRu K) "applies" f ∧ FnOk P w K mg base (L2.CX P w) 7 f fd ["self", "levels"] (spApplies K) ∧ Binds K fd ["self", "levels"] []
  nv : PySem.W.findIn K (.ref (aUL K)) "value" = some none
  gM : mg "MissingError" = some (.ref (He.ga K "MissingError"))
  uu : PySem.W.exmOne K (.ref (aUL K)) (.ref (aUL K)) = some true
  um : PySem.W.kitOne K (.ref (aUL K)) (.ref (He.ga K "MissingError")) = some true
  ul : PySem.W.kitOne K (.ref (aUL K)) (.type "LookupError") = some true
  isi : mg "isinstance" = none
  le : mg "LookupError" = none
  sp : PySem.W.specialIn K (.builtin "object.__class__") "__get__" = some (some (.builtin "getset_descriptor.__get__"))
  tk : PySem.W.takesIn K (.builtin "object.__class__") = some true
def spTold (K : PySem.W.Frag) : Sp := fun vs H Q _ => ∃ (s d : Addr) (g a : Str) (rows : List Row) (ms : List (Str × Mvd)) (lv : Str → Option Rat), vs = [.ref s, .ref d] ∧ RuleM K H s g a rows ms ∧ LevAt K H d lv ∧ rows.length ≤ 1000 ∧ (∀ r ∈ rows, Sz 100000 r.2.2) ∧
  (((∀ r ∈ rows, lv r.1 ≠ none) ∧ ∀ l H', Same H H' → H l = none → H' l = some (.lst [.str "told", .bl (rows.all (trB lv))]) → Q (.ref l) H') ∨
   ∃ (j : Nat) (r : Row), rows[j]? = some r ∧ lv r.1 = none ∧ (∀ (i : Nat) (u : Row), i < j → rows[i]? = some u → lv u.1 ≠ none) ∧ ∀ l H', Same H H' → H l = none → H' l = some (.lst [.str "level", .str r.1, .bl true, .bl true]) → Q (.ref l) H')
abbrev nTold : List Str := ["_law_rule", "_law_numbers", "_law_told_here", "e"]
theorem scTold : FnScope nTold ["_law_rule", "_law_numbers"] (defScope sTold) := ⟨rfl, rfl, rfl, by decide +kernel, rfl, by decide +kernel, by decide +kernel⟩
theorem ok_told {f : Addr} {fd : FuncData} (F : Fun K "_law_told" "_law_told" sTold f fd) (Z : LTo P w K mg base) : FnOk P w K mg base CX0 8 f fd ["_law_rule", "_law_numbers"] (spTold K) := by
  obtain ⟨fA, fdA, mA, GA_, bA⟩ := Z.ap
  have T := Z.U
  refine F.ok scTold (fun vs H Q E h => ?_) (fun cdv A outer s H vs Q E hr h => ?_)
  · obtain ⟨s, d, g, a, rows, ms, lv, rfl, _⟩ := h
    rfl
  · obtain ⟨s0, d, g, a, rows, ms, lv, rfl, hs, hl, lr, sz, h⟩ := h
    refine ⟨_, pss_cons (ps_set (i := 2) scTold.nd rfl (Or.inl rfl) (pe_lst (pa_cons pe_str pa_nil)))
      (pss_cons (ps_try_named rfl rfl scTold.nd LamX.takes0 (fun W pn xe tk => pss_one (ps_set (i := 2) scTold.nd rfl (Or.inl rfl) (pe_lst (pa_cons pe_str (pa_cons (pe_methW (pv 0) T.cl mA GA_ hr bA (fun σ => passAt tk σ) (pa_cons (pv 1) pa_nil)) pa_nil)))))
        (Clauses.cons (c := .ref (aUL K)) (i := 3) rfl rfl ⟨rfl, by decide, .inl Z.E.gU⟩ (fun a oe cls d pn hz hf => pss_one (ps_set (i := 2) scTold.nd rfl (Or.inl rfl) (pe_lst (pa_cons pe_str (pa_cons (pe_caught Z.E.xU hz hf (pv 3))
          (pa_cons (pe_callB (call_caughtIs Z.E.xU hz hf Z.sp Z.tk) (by rfl) Z.isi (by decide +kernel) (pa_cons (pv 3) (pa_cons (pe_glob (v := .ref (He.ga K "MissingError")) rfl Z.gM rfl) pa_nil)))
          (pa_cons (pe_callB (call_caughtIs Z.E.xU hz hf Z.sp Z.tk) (by rfl) Z.isi (by decide +kernel) (pa_cons (pv 3) (pa_cons (pe_bltn (v := .ty "LookupError") (by rfl) Z.le (by decide +kernel) rfl) pa_nil))) pa_nil)))))))
        .nil))
      (pss_one (ps_ret (pv 2)))), ?_⟩
    refine ⟨(by show 1 ≤ sizeLine; decide), fun l0 n0 => ?_⟩
    have u1 := same_new (o := .lst [V.str "none"]) n0
    generalize upd H l0 (.lst [V.str "none"]) = H1 at u1 ⊢
    have hs1 := hs.same u1
    obtain ⟨kvs, ⟨dx, tw, md, es, r⟩, mm⟩ := id hs1
    refine ⟨_, rfl, s0, dx, _, rfl, es, rfl, _, rfl, s0, d, g, a, rows, ms, lv, rfl, hs1, hl.same u1, lr, sz, ?_⟩
    rcases h with ⟨have_, k⟩ | ⟨j, r1, hj, nj, bef, k⟩
    · refine .inl ⟨have_, fun H2 s2 => ⟨(by show 2 ≤ sizeLine; decide), fun l nl => ?_⟩⟩
      have u3 := same_new (o := .lst [V.str "told", .bl (rows.all (trB lv))]) nl
      exact ⟨_, rfl, k l _ ((u1.trans s2).trans u3) (none_of (u1.trans s2) nl) upd_same⟩
    · refine .inr ⟨j, r1, hj, nj, bef, fun dd H2 s2 n2 e2 => ?_⟩
      refine ⟨true, Z.uu, fun _ a na => ?_, (fun z => nomatch z)⟩
      refine ⟨_, rfl, rfl, rfl, _, _, Z.nv, .inr ⟨dd, rfl, e2⟩, rfl, _, rfl, .ref (He.ga K "MissingError"), .ref (He.ga K "MissingError"), true, _, rfl, rfl, .inr ⟨dd, rfl, e2⟩, .own _, Z.um, _, rfl, .ty "LookupError", .type "LookupError", true, _, rfl, rfl, .inr ⟨dd, rfl, e2⟩, .ty _, Z.ul, (by show 4 ≤ sizeLine; decide), fun l nl => ?_⟩
      have u3 := same_new (o := .lst [V.str "level", .str r1.1, .bl true, .bl true]) nl
      exact ⟨_, rfl, k l _ ((u1.trans s2).trans u3) (none_of (u1.trans s2) nl) upd_same⟩
end
end K18
set_option maxHeartbeats 1000000
/-! repr(a), a an own instance. -/
namespace GL
open PySem PySem.Spec PyProof.Rows L2
theorem krp_call {prog : Program} {w : World} {A : Around} {E : Value → Shared → Prop} {s : Shared} {K : PySem.W.Frag} {x C f : Addr} {ox : Obj} {od : Option Obj} {Q : Value → Shared → Prop} (hu : A.in1.units < cLine) (X : K.In s.heap) (I : PySem.W.InstAt s.heap x ox C od) (hr : PySem.W.findIn K (.ref C) "__repr__" = some (some (.ref f))) (hf : PySem.W.isFn K (.ref f) = true)
    (h : wpAny (model prog w) A.in1 (call (.ref f) [.ref x]) (PySem.W.KfoBack Q) E s) : wpAny (model prog w) A (call (.builtin "repr") [.ref x]) Q E s := by
  refine Calls.call_function_entry PySem.F.kind_repr PySem.F.plain_repr PySem.F.entry_repr (PySem.F.args_repr1 _) ?_
  unfold Builtin.«repr»
  refine wpAny_bind (m := PySem.oneArg "repr" _) (wpAny_pure ?_)
  refine wpAny_bind (wpAny_cRoomFor hu ?_)
  refine wpAny_bind (m := specialOf (.ref x) _) (wpAny_bind (I.type.here ((PySem.W.looks_findIn X hr).here ?_)))
  show wpAny _ _ (if (some (Value.ref f)).isNone = true then _ else _) _ _ _
  rw [if_neg (by simp)]
  refine wpAny_bind (m := callSpecialIfBound? (.ref x) (Str.ofString "__repr__") _) (PySem.W.ifBound_K X I hr hf (wpAny_mono h (fun r s' hq => ?_) fun _ _ y => y))
  obtain ⟨m, tk, rfl, hq⟩ := hq
  refine wpAny_bind (wpAny_isInstance (typeIs_str _ _ _) isSubtype_str_str ?_)
  first
    | exact wpAny_pure ⟨_, rfl, hq⟩
    | (rw [if_pos rfl]; exact wpAny_pure ⟨_, rfl, hq⟩)
    | (simp only [if_true]; exact wpAny_pure ⟨_, rfl, hq⟩)
theorem call_reprO {X : Cx} {CX : CXT} {E : XK} {k : Nat} {sp : Sp} {C f : Addr} (B : Meth X.K C "__repr__" f) (F : FnR X.prog X.w X.K X.mg X.base CX k f sp) (hr : Room (k + 1) X.A) (hx : Passes CX X E) :
    CallR X (.builtin "repr") (fun xs H Q => ∃ a dx fs, xs = [.ref a] ∧ H a = some (.ins C dx fs) ∧ sp [.ref a] H (fun v H' => ∃ z, v = .str z ∧ Q v H') E) := by
  intro pins s σ H xs us Q I r h
  obtain ⟨a, dx, fs, rfl, ea, q⟩ := h
  cases r with
  | cons r1 r2 =>
    cases r2
    rename_i u
    cases (show u = Value.ref a from r1)
    obtain ⟨ox, od, J⟩ := inst_of I ea
    have e0 : Env0 X.prog X.w X.K X.mg X.base X.A.in1 X.stack s H := { I.env0 with frames := I.env0.frames }
    have run := F X.A.in1 X.stack s H [.ref a] [.ref a] _ E (Room.in1 hr) e0 (Paired.cons (a := V.ref a) (b := Value.ref a) rfl .nil) q
    have hu : X.A.in1.units < cLine := by
      have := (Room.in1 hr).un
      omega
    refine krp_call hu I.kIn J B.at_ B.fn (wpAny_call (codeAny_mono run fun r' s' z => ?_))
    match r', z with
    | .error er, z => exact hx pins σ H s er s' I z
    | .ok .next, z => exact False.elim z
    | .ok .brk, z => exact False.elim z
    | .ok .cont, z => exact False.elim z
    | .ok (.ret w), z =>
      obtain ⟨v, H', I', rv, y, rfl, q'⟩ := I.after z
      obtain ⟨t, rfl⟩ := (show ∃ t, w = Value.str y t from rv)
      exact ⟨y, t, rfl, V.str y, H', I', rv, q'⟩
end GL
set_option maxHeartbeats 1000000
/-! defs that neither loop nor raise: called whatever is handled. -/
namespace GL
open PySem PySem.Spec PyProof.Rows L2 L2H
structure FnC (P : Program) (w : World) (K : PySem.W.Frag) (mg : Str → Option Value) (base : Heap) (k : Nat) (f : Addr) (fd : FuncData) (ps : List Str) (sp : Sp) : Prop where
  len : ∀ vs H Q E, sp vs H Q E → vs.length = ps.length
  run : ∀ (A : Around) (outer : List Env) (s : Shared) (H : Hp) (args : Args) (us : List Value) (vs : List V) (Q : VK), RoomH k A → Env0 P w K mg base A outer s H → BindsTo s fd args (ps.zip us) → Vals vs us → sp vs H Q E0 →
    codeAny (model P w) A (.call (.ref f) args) (CR CX0 outer P w H s Q E0) s
def cxQ (P : Program) (w : World) (K : PySem.W.Frag) (mg : Str → Option Value) (base : Heap) (N : List Str) (qual : Str) (scope : Scope) (f : Addr) (cd : Value) (A : Around) (outer : List Env) (s : Shared) (H : Hp) : Cx :=
  { cxOf CX0 P w K mg base N qual scope f cd A outer s H E0 with calm := false }
/-- nothing is handled -/
def quiet (A : Around) : Around := { A with handled := none }
section
variable {P : Program} {w : World} {K : PySem.W.Frag} {mg : Str → Option Value} {base : Heap} {N ps : List Str} {q : Str} {sc : Scope} {f : Addr} {cd : Value} {A : Around} {out : List Env} {s s1 : Shared} {H : Hp}
theorem Env0.quiet (e : Env0 P w K mg base A out s H) : Env0 P w K mg base (quiet A) out s H := { e with frames := e.frames }
theorem inv_quiet {z : L2.St} {G : Hp} {pins : List (Addr × Obj)} (I : Inv (cxOf CX0 P w K mg base N q sc f cd (GL.quiet A) out s H E0) pins z G s1) : Inv (cxQ P w K mg base N q sc f cd A out s H) pins z G s1 :=
  { I with ok := { I.ok with hd := fun v => by cases v } }
theorem fnC_of {k : Nat} {nm : Str} {pa : Arguments} {bd : List Stmt} {dV kV dc pm oc ct : Value} {an od : Option Addr} {osl : Array (Option Value)} {sp : Sp} (at_ : K.lookup f = some ⟨oc, od, .func (PySem.W.fnOf nm q pa bd sc dV kV dc pm an cd ct), osl⟩) (code : PySem.W.codeIn K cd q = true) (S : FnScope N ps sc)
    (long : ∀ vs H Q E, sp vs H Q E → vs.length = ps.length)
    (inner : ∀ (A : Around) (out : List Env) (s : Shared) (H : Hp) (vs : List V) (Q : VK), RoomH k (A.deeper (envOfC q sc s.heap.objs.size f cd)) → sp vs H Q E0 → ∃ t, PSs (cxQ P w K mg base N q sc f cd A out s H) bd t ∧ t { nx := fun _ G => Q .non G, rt := Q } (L2.start N vs) H) :
    FnC P w K mg base (k + 1) f (PySem.W.fnOf nm q pa bd sc dV kV dc pm an cd ct) ps sp := by
  refine ⟨long, ?_⟩
  intro A out s H args us vs Q room e0 bnd vals hsp
  have hin := e0.mod.kin.keeps fun b o z => (e0.bs b o z).1
  refine codeAny_call_function room.depth (hin _ _ at_) rfl S.co S.gen rfl (PySem.W.codeRec_of hin code) (bnd _ _ _ _ ?_)
  refine wpAny_newFunctionEnv_cells S.kind ?_ ?_
  · rintro ⟨n, v⟩ hy
    rcases S.par n (List.of_mem_zip hy).1 with z | z
    · exact .inl z
    · exact .inr ⟨z, PySem.W.cellsFrom_some _ _ _ (.inl z)⟩
  · rintro env rfl s1 x
    refine ⟨(e0.mod.nolimit.keeps fun b o z => (e0.bs b o z).1).keeps x.toInCall.keep, codeAny_func ?_⟩
    obtain ⟨t, ok, go⟩ := inner A out s H vs Q (room.deeper _) hsp
    have J := inv_quiet (inv_start (CX := CX0) (E := E0) S (A := GL.quiet A) rfl (GL.Env0.quiet e0) (long _ _ _ _ hsp) vals x)
    refine wpAny_mono (ok.run [] s1 (L2.start N vs) H _ J go) ?_ fun _ _ z => z
    intro fl s2 z
    match fl, z with
    | .ret u, ⟨v, _, G, L, rv, z⟩ => exact ⟨v, G, L.os, L.bare, L.base, L.hok, rv, z⟩
    | .next, ⟨_, G, L, z⟩ => exact ⟨.non, G, L.os, L.bare, L.base, L.hok, rfl, z⟩
    | .brk, ⟨_, _, _, z⟩ => exact z.elim
    | .cont, ⟨_, _, _, z⟩ => exact z.elim
end
theorem call_reprQ {X : Cx} {k : Nat} {fd : FuncData} {sp : Sp} {C f : Addr} (B : Meth X.K C "__repr__" f) (F : FnC X.prog X.w X.K X.mg X.base k f fd ["self"] sp) (hb : Binds X.K fd ["self"] []) (hr : RoomH (k + 1) X.A) :
    CallR X (.builtin "repr") (fun xs H Q => ∃ a dx fs, xs = [.ref a] ∧ H a = some (.ins C dx fs) ∧ sp [.ref a] H (fun v H' => ∃ z, v = .str z ∧ Q v H') E0) := by
  intro pins s σ H xs us Q I r h
  obtain ⟨a, dx, fs, rfl, ea, q⟩ := h
  cases r with
  | cons r1 r2 =>
    cases r2
    rename_i u
    cases (show u = Value.ref a from r1)
    obtain ⟨ox, od, J⟩ := inst_of I ea
    have e0 : Env0 X.prog X.w X.K X.mg X.base X.A.in1 X.stack s H := { I.env0 with frames := I.env0.frames }
    have b := hb s [.ref a] I.kIn rfl
    rw [List.append_nil] at b
    have hr1 : RoomH k X.A.in1 := ⟨by have := hr.dp; show X.A.depth + 3 * k + 5 < _; omega, by have := hr.un; show X.A.units + 1 + 16 * k + 200 < _; omega⟩
    have run := F.run X.A.in1 X.stack s H ⟨[.ref a], []⟩ [.ref a] [.ref a] _ hr1 e0 b (Paired.cons (a := V.ref a) (b := Value.ref a) rfl .nil) q
    have hu : X.A.in1.units < cLine := by
      have := hr1.un
      omega
    refine krp_call hu I.kIn J B.at_ B.fn (wpAny_call (codeAny_mono run fun r' s' z => ?_))
    match r', z with
    | .error er, z => exact False.elim z
    | .ok .next, z => exact False.elim z
    | .ok .brk, z => exact False.elim z
    | .ok .cont, z => exact False.elim z
    | .ok (.ret w), z =>
      obtain ⟨v, H', I', rv, y, rfl, q'⟩ := I.after z
      obtain ⟨t, rfl⟩ := (show ∃ t, w = Value.str y t from rv)
      exact ⟨y, t, rfl, V.str y, H', I', rv, q'⟩
end GL
set_option maxHeartbeats 1000000
/-! repr of tuples that hold own instances. -/
namespace GL
open PySem PySem.Spec PyProof.Rows L2 L2H PySem.Builtin.Tuple
theorem ifBoundBy_K {M : Model} {A : Around} {E : Value → Shared → Prop} {s : Shared} {K : PySem.W.Frag} {x C f : Addr} {ox : Obj} {od : Option Obj} {name : Str} {last : Value → List Value → Sem Value} {Q : Option Value → Shared → Prop} (X : K.In s.heap) (I : PySem.W.InstAt s.heap x ox C od) (hs : PySem.W.findIn K (.ref C) name = some (some (.ref f))) (hf : PySem.W.isFn K (.ref f) = true)
    (h : wpAny M A (last (.ref f) [.ref x]) (fun v => Q (some v)) E s) : wpAny M A (callSpecialIfBoundBy? last (.ref x) name) Q E s := by
  simp only [callSpecialIfBoundBy?, bindSpecialIfBound?]
  refine wpAny_holding (wpAny_bind (wpAny_bind (wpAny_bind (I.type.here ((PySem.W.looks_findIn X hs).here ?_)))))
  refine wpAny_bind (wpAny_askSetting (wpAny_ite ?_))
  have fin : wpAny M A (last (.ref f) [.ref x] >>= fun v => pure (some v)) Q E s := wpAny_bind (wpAny_mono h (fun v s' h' => wpAny_pure h') fun _ _ h' => h')
  split
  · exact wpAny_bind ((PySem.W.bind_fn X _ (beq_iff_eq.mp hf)).here (wpAny_pure (by exact fin)))
  · exact wpAny_tryCatch (wpAny_bind ((PySem.W.bind_fn X _ (beq_iff_eq.mp hf)).here (wpAny_pure (by exact fin))))
theorem krp_under {prog : Program} {w : World} {A : Around} {E : Value → Shared → Prop} {s : Shared} {K : PySem.W.Frag} {x C f : Addr} {ox : Obj} {od : Option Obj} {Q : Str → Shared → Prop} {b : Nat} (hb : b ≤ sizeLine) (hu : A.units < cLine) (X : K.In s.heap) (I : PySem.W.InstAt s.heap x ox C od) (hr : PySem.W.findIn K (.ref C) "__repr__" = some (some (.ref f))) (hf : PySem.W.isFn K (.ref f) = true)
    (h : wpAny (model prog w) A (call (.ref f) [.ref x]) (fun v s' => ∃ m tk, v = .str m tk ∧ Q m s') E s) : wpAny (model prog w) A (pyReprUnder b (.ref x)) Q E s := by
  refine wpAny_pyReprUnder_ref hb ?_
  unfold pyReprObjUnder pyReprObjBy
  refine wpAny_bind (wpAny_cRoomFor hu ?_)
  refine wpAny_bind (m := specialOf (.ref x) _) (wpAny_bind (I.type.here ((PySem.W.looks_findIn X hr).here ?_)))
  show wpAny _ _ (if (some (Value.ref f)).isNone = true then _ else _) _ _ _
  rw [if_neg (by simp)]
  refine wpAny_bind (ifBoundBy_K X I hr hf ?_)
  show wpAny _ _ (call (.ref f) ([.ref x] ++ [])) _ _ _
  refine wpAny_mono h (fun r s' hq => ?_) fun _ _ y => y
  obtain ⟨m, tk, rfl, hq⟩ := hq
  refine wpAny_bind (wpAny_isInstance (typeIs_str _ _ _) isSubtype_str_str ?_)
  first
    | exact wpAny_pure ⟨_, _, rfl, hq⟩
    | (rw [if_pos rfl]; exact wpAny_pure ⟨_, _, rfl, hq⟩)
    | (simp only [if_true]; exact wpAny_pure ⟨_, _, rfl, hq⟩)
structure SubH (X : Cx) (n : Nat) (A : Around) : Prop where
  room : RoomH n A
  fr : A.frames = X.A.frames
theorem SubH.units0 {X : Cx} {n : Nat} {A : Around} (h : SubH X n A) : A.units < cLine := by
  have := h.room.un
  omega
/-- repr inside a tuple gives t -/
def ReprG (X : Cx) (n : Nat) (as : List Addr) (x : V) (t : Str) (H : Hp) : Prop :=
  ∀ (A : Around) (g : List Code) (pins : List (Addr × Obj)) (s : Shared) (σ : L2.St) (H1 : Hp) (u : Value) (b : Nat) (E : Value → Shared → Prop) (Q : Str → Shared → Prop), SubH X n A → A.guards = some g → (∀ c ∈ as, Clear g c) → Same H H1 → Inv X pins σ H1 s → L2.RelV x u → b + t.length ≤ sizeLine →
    (∀ s' H', Inv X pins σ H' s' → Same H1 H' → Q t s') → wpAny (model X.prog X.w) A (pyReprUnder b u) Q E s
inductive ReprsG (X : Cx) (n : Nat) (as : List Addr) (H : Hp) : List V → List Str → Prop
  | nil : ReprsG X n as H [] []
  | cons {x : V} {t : Str} {l : List V} {ts : List Str} : ReprG X n as x t H → ReprsG X n as H l ts → ReprsG X n as H (x :: l) (t :: ts)
section
variable {X : Cx} {n : Nat} {as : List Addr} {H : Hp}
theorem ReprsG.length_eq : ∀ {l : List V} {ts : List Str}, ReprsG X n as H l ts → ts.length = l.length
  | _, _, .nil => rfl
  | _, _, .cons _ h => by simp [h.length_eq]
theorem ReprG.more {x : V} {t : Str} {bs : List Addr} (h : ReprG X n as x t H) (sub : ∀ c ∈ as, c ∈ bs) : ReprG X n bs x t H := fun A g pins s σ H1 u b E Q sb hg hcl k I r hb q => h A g pins s σ H1 u b E Q sb hg (fun c hc => hcl c (sub c hc)) k I r hb q
theorem ReprG.int {i : Int} (hi : i.natAbs.log2 < 1920) : ReprG X n as (.int i) (toString i) H := by
  intro A g pins s σ H1 u b E Q sb hg hcl k I r hb q
  obtain ⟨t, rfl⟩ := (show ∃ t, u = Value.int i t from r)
  exact ReprIs.int t hi b hb A E s Q fun tk => q _ H1 (I.tok tk) fun _ _ e => e
theorem ReprG.bl {c : Bool} : ReprG X n as (.bl c) (if c then "True" else "False") H := by
  intro A g pins s σ H1 u b E Q sb hg hcl k I r hb q
  cases (show u = Value.bool c from r)
  exact ReprIs.bool c b hb A E s Q fun tk => q _ H1 (I.tok tk) fun _ _ e => e
/-- an own instance whose __repr__ neither loops nor raises -/
theorem ReprG.own {fd : FuncData} {sp : Sp} {C f a : Addr} {dx : Addr} {fs : List (Str × V)} {t : Str} (B : Meth X.K C "__repr__" f) (F : FnC X.prog X.w X.K X.mg X.base n f fd ["self"] sp) (hb : Binds X.K fd ["self"] [])
    (ha : H a = some (.ins C dx fs)) (hsp : ∀ H1, Same H H1 → sp [.ref a] H1 (fun v H' => v = .str t ∧ Same H1 H') E0) : ReprG X n as (.ref a) t H := by
  intro A g pins s σ H1 u b E Q sb hg hcl k I r hlen q
  cases (show u = Value.ref a from r)
  obtain ⟨ox, od, J⟩ := inst_of I (k _ _ ha)
  have e0 : Env0 X.prog X.w X.K X.mg X.base A X.stack s H1 := by
    have e := I.env0
    exact { e with frames := sb.fr.trans e.frames }
  have b0 := hb s [.ref a] I.kIn rfl
  rw [List.append_nil] at b0
  have run := F.run A X.stack s H1 ⟨[.ref a], []⟩ [.ref a] [.ref a] _ sb.room e0 b0 (Paired.cons (a := V.ref a) (b := Value.ref a) rfl .nil) (hsp H1 k)
  refine krp_under (by omega) sb.units0 I.kIn J B.at_ B.fn (wpAny_call (codeAny_mono run fun r' s' z => ?_))
  match r', z with
  | .error er, z => exact False.elim z
  | .ok .next, z => exact False.elim z
  | .ok .brk, z => exact False.elim z
  | .ok .cont, z => exact False.elim z
  | .ok (.ret w), z =>
    obtain ⟨v, H', I', rv, rfl, k'⟩ := I.after z
    obtain ⟨tk, rfl⟩ := (show ∃ tk, w = Value.str t tk from rv)
    exact ⟨t, tk, rfl, q s' H' I' k'⟩
/-- the items, one after another -/
theorem foldG {A : Around} {g : List Code} {pins : List (Addr × Obj)} {σ : L2.St} {E : Value → Shared → Prop} (sb : SubH X n A) (hg : A.guards = some g) (hcl : ∀ c ∈ as, Clear g c) : ∀ (xs : List V) (us : List Value) (ts : List Str) (acc : Array Str) (k : Nat) (s : Shared) (H1 : Hp) (Q : (Array Str × Nat) → Shared → Prop), ReprsG X n as H xs ts → Vals xs us → k + piled ts ≤ sizeLine → Same H H1 → Inv X pins σ H1 s →
    (∀ s' H', Inv X pins σ H' s' → Same H1 H' → Q ⟨acc ++ ts.toArray, k + piled ts⟩ s') → wpAny (model X.prog X.w) A (forIn us (⟨acc, k⟩ : (Array Str × Nat)) tupBody) Q E s := by
  intro xs
  induction xs with
  | nil =>
    intro us ts acc k s H1 Q hT r hk kH I q
    cases hT
    cases r
    have h0 := q s H1 I fun _ _ e => e
    simp only [List.forIn_nil]
    exact wpAny_pure (by simpa [piled] using h0)
  | cons x xs ih =>
    intro us ts acc k s H1 Q hT r hk kH I q
    cases hT with
    | cons hx hl =>
      rename_i t ts'
      cases r with
      | cons r1 r2 =>
        rename_i u us'
        rw [piled_cons] at hk
        rw [List.forIn_cons]
        refine wpAny_bind (wpAny_bind (hx A g pins s σ H1 u (k + 1) _ _ sb hg hcl kH I r1 (by omega) fun s' H' I' k' => wpAny_pure ?_))
        refine ih us' ts' (acc.push t) (k + (t.length + 2)) s' H' Q hl r2 (by omega) (kH.trans k') I' fun s2 H2 I2 k2 => ?_
        have h1 := q s2 H2 I2 (k'.trans k2)
        have e : k + piled (t :: ts') = k + (t.length + 2) + piled ts' := by rw [piled_cons]; omega
        rw [e] at h1
        simpa using h1
theorem own_tupG {A : Around} {g : List Code} {pins : List (Addr × Obj)} {σ : L2.St} {s : Shared} {H1 : Hp} {a : Addr} {xs : List V} {ts : List Str} {R : Result → Shared → Prop} {base : Nat} {id : String} {rest : List Value}
    (ha : SqT X.K H1 a xs) (hna : a ∉ as) (hT : ReprsG X n as H xs ts) (kH : Same H H1) (I : Inv X pins σ H1 s)
    (hcg : (Code.builtin id ⟨.ref a :: rest, []⟩).isGuard = true) (sb' : SubH X n (A.under (.builtin id ⟨.ref a :: rest, []⟩)))
    (hg : A.guards = some g) (hcl : ∀ b ∈ a :: as, Clear g b)
    (hR : ∀ s' H' u, Inv X pins σ H' s' → Same H1 H' → R (.ok (.ret (.str (tupleText ts) u))) s') (hsz : base + (tupleText ts).length ≤ sizeLine) :
    wpOwn (model X.prog X.w) A (.builtin id ⟨.ref a :: rest, []⟩) (Builtin.tupleReprAt base ⟨[.ref a], []⟩) (fun fin s' => match fin with | .done f => R (.ok f) s' | .again c' => c'.quiet = true ∧ codeAny (model X.prog X.w) A c' R s') (fun e s' => R (.error e) s') s := by
  have hca : Clear g a := hcl a (.head _)
  obtain ⟨us, r, e, z⟩ := I.tuple ha
  obtain ⟨⟨cls, dd, data, sl⟩, ho, hc1, k1, hd1⟩ := _root_.id e
  dsimp only at hc1 hd1
  have hlen : ts.length = us.toArray.size := by
    rw [List.size_toArray, ← r.length]
    exact hT.length_eq
  have hp := piled_le_tupleText ts
  have hsz0 : (tupleText ts).length ≤ sizeLine := by omega
  rw [tuple_repr_tree, tupleReprUnderWay_eq]
  refine wpOwn_bind (wpOwn_stackTailAny hg (tupGuardF_off _) (tupGuardF_pos _) ?_)
  have hn : (g.any fun c => tupGuardF (.ref a) (c, default)) = false := by
    rw [List.any_eq_false]
    intro c hcm
    rw [tupGuardF_of_clear hca c hcm]
    exact Bool.false_ne_true
  rw [hn]
  refine wpOwn_of_wpAny ?_
  show wpAny _ _ (tupleReprRest base (.ref a)) _ _ s
  unfold tupleReprRest Builtin.Tuple.tupleItemsOf
  refine wpAny_bind (wpAny_bind (wpAny_seqItems ho hd1 (wpAny_pure ?_)))
  rw [← Array.forIn_toList]
  refine wpAny_bind (foldG sb' (guards_under_guard hcg hg) (fun b hb => (hcl b (.tail _ hb)).cons (a := a) fun e => hna (e ▸ hb)) xs us ts _ _ s H1 _ hT r (by omega) kH I fun s' H' I' k' => ?_)
  refine wpAny_bind (wpAny_mkStr (wpAny_pure ?_) (by simpa [tupleText, hlen] using hsz0))
  have h1 := hR _ H' s'.toks (I'.tok (s'.toks + 1)) k'
  simpa [tupleText, hlen] using h1
theorem SubH.under {A : Around} {id : String} {args : Args} (h : SubH X (n + 1) A) (hcu : (A.under (.builtin id args)).units = A.units + 1) (hw : (Code.builtin id args).weight = 1) : SubH X n (A.under (.builtin id args)) := by
  refine ⟨⟨?_, ?_⟩, h.fr⟩
  · have := h.room.dp
    show A.depth + (Code.builtin id args).weight + 3 * n + 5 < _
    omega
  · have := h.room.un
    rw [hcu]
    omega
theorem ReprG.tup {a : Addr} {xs : List V} {ts : List Str} (ha : H a = some (.tup xs)) (hna : a ∉ as) (hT : ReprsG X n as H xs ts) : ReprG X (n + 1) (a :: as) (.ref a) (tupleText ts) H := by
  intro A g pins s σ H1 u b E Q sb hg hcl k I r hb q
  cases (show u = Value.ref a from r)
  have ha1 : SqT X.K H1 a xs := SqT.of (k _ _ ha)
  obtain ⟨us, _, e, _⟩ := I.tuple ha1
  obtain ⟨o, ho, hc, _⟩ := e
  refine wpAny_pyReprUnder_ref (by omega) (wpAny_pyReprObjUnder_twin (twin := "tuple.__repr__.under") ⟨o, ho, hc⟩ F.slot_tuple_repr rfl sb.units0 ?_)
  refine call_twin_own (F.quiet_tuple_repr_under _) F.entry_tuple_repr_under F.check_tuple_repr_under ⟨o, ho, hc⟩ F.slot_tuple_repr (F.args_tuple_repr_1 _) ?_
  exact own_tupG (R := callEnd _ E) ha1 hna hT k I (isGuard_tuple_repr_under _) (sb.under (units_under_tuple_repr_under _ _) (by kernel_rfl)) hg hcl (fun s' H' u I' k' => ⟨⟨_, _, rfl⟩, _, _, rfl, q s' H' I' k'⟩) hb
theorem call_reprG (gd : X.A.guards = some []) (hr : RoomH (n + 2) X.A) :
    CallR X (.builtin "repr") (fun xs H Q => ∃ a l ts as, xs = [.ref a] ∧ SqT X.K H a l ∧ a ∉ as ∧ ReprsG X n as H l ts ∧ (tupleText ts).length ≤ sizeLine ∧ ∀ H', Same H H' → Q (.str (tupleText ts)) H') := by
  intro pins s σ H xs us Q I r h
  obtain ⟨a, l, ts, as, rfl, ha, hna, hT, sz, q⟩ := h
  cases r with
  | cons r1 r2 =>
    cases r2
    rename_i u
    cases (show u = Value.ref a from r1)
    obtain ⟨us, _, e, _⟩ := I.tuple ha
    obtain ⟨o, ho, hc, _⟩ := e
    have un := hr.un
    have dp := hr.dp
    have sb : SubH X (n + 1) X.A.in1 := ⟨⟨by show X.A.depth + 3 * (n + 1) + 5 < _; omega, by show X.A.units + 1 + 16 * (n + 1) + 200 < _; omega⟩, rfl⟩
    refine call_repr_slot (by omega) ⟨o, ho, hc⟩ F.slot_tuple_repr ?_
    refine wpAny_call (codeAny_call_builtin_own (Code.quiet_builtin _ (by decide +kernel)) F.entry_tuple_repr (F.slot_tuple_repr.check _ _ _ _ _ _ _ _ ⟨o, ho, hc⟩ (F.args_tuple_repr_1 _) ?_))
    refine own_tupG (R := callEnd _ X.xe) (base := 0) ha hna hT (fun _ _ z => z) I (isGuard_tuple_repr _) (sb.under (units_under_tuple_repr _ _) (by kernel_rfl)) (g := []) gd (fun b _ => Clear.nil b) (fun s' H' u I' k' => ?_) (by omega)
    exact ⟨_, _, rfl, V.str (tupleText ts), H', I', ⟨_, rfl⟩, q H' k'⟩
end
end GL
set_option maxHeartbeats 1000000
/-! repr of a list whose items are tuples of own instances, texts. -/
namespace GL
open PySem PySem.Spec PyProof.Rows L2 L2H PySem.Builtin.Tuple
open PySem.Builtin PySem.Builtin.List
section
variable {X : Cx} {n : Nat} {as : List Addr} {H : Hp}
theorem ReprG.str {z : Str} (hz : (reprText z).length ≤ sizeLine) : ReprG X n as (.str z) (reprText z) H := by
  intro A g pins s σ H1 u b E Q sb hg hcl k I r hb q
  obtain ⟨t, rfl⟩ := (show ∃ t, u = Value.str z t from r)
  exact ReprIs.str z t hz b hb A E s Q fun tk => q _ H1 (I.tok tk) fun _ _ e => e
theorem ReprsG.get : ∀ {l : List V} {ts : List Str}, ReprsG X n as H l ts → ∀ (i : Nat) (x : V), l[i]? = some x → ∃ t, ts[i]? = some t ∧ ReprG X n as x t H
  | _, _, .nil, _, _, e => by simp at e
  | _, _, .cons h hs, 0, x, e => by
    cases e
    exact ⟨_, rfl, h⟩
  | _, _, .cons h hs, i + 1, x, e => hs.get i x e
theorem SubH.underL {A : Around} {args : Args} (h : SubH X (n + 1) A) : SubH X n (A.under (.builtin "list.__repr__.loop" args)) := h.under (units_under_list_loop _ _) (by kernel_rfl)
theorem loopG {A : Around} {g : List Code} {pins : List (Addr × Obj)} {σ : L2.St} {R : Result → Shared → Prop} {a P : Addr} {xs : List V} {ts : List Str} {base : Nat}
    (sb : SubH X (n + 1) A) (hg : A.guards = some g) (hcl : ∀ b ∈ as, Clear g b) (hna : a ∉ as) (ha : H a = some (.lst xs)) (hT : ReprsG X n as H xs ts)
    (h1 : P ∈ X.ex ∨ X.s_0.heap.objs.size ≤ P) (h2 : ∀ x c, X.env.cells.lookup x = some c → c ≠ P) (h3 : ∀ p ∈ X.pn ++ pins, p.1 ≠ P) (h4 : P ≠ X.env.locals) (h5 : P ∉ X.fs) (hsz : base + (listText ts).length ≤ sizeLine) :
    ∀ (k i : Nat) (s : Shared) (H1 : Hp) (acc : Array Value) (c : Nat) (done : List (Str × Tok)), xs.length - i = k → i ≤ xs.length → Same H H1 → Inv X ((P, { cls := .type "list", dict := none, data := .seq acc c, slots := #[] }) :: pins) σ H1 s → acc.toList = strValues done → done.map (·.1) = ts.take i →
    (∀ s' H' u, Inv X pins σ H' s' → Same H1 H' → R (.ok (.ret (.str (listText ts) u))) s') →
    codeAny (model X.prog X.w) A (.builtin "list.__repr__.loop" ⟨[.ref a, rawInt i, .ref P, rawInt ((base + piled (ts.take i) : Nat) : Int)], []⟩) R s := by
  have hX : (listText ts).length = (textFrom 0 "[" ts).length + 1 := by
    show (textFrom 0 "[" ts ++ "]").length = _
    rw [strLen_append]; rfl
  have hL := textFrom_len ts 0 "["
  have hlen := hT.length_eq
  have hsz1 : xs.length ≤ sizeLine := by
    have h1 := hL.1
    rw [if_neg (Nat.lt_irrefl 0)] at h1
    omega
  have hsz2 : ∀ t ∈ ts, t.length ≤ sizeLine := fun t ht => by
    have h2 := hL.2.1 t ht
    omega
  have hsz3 : (listText ts).length ≤ sizeLine := by omega
  have hp3 := piled_le_listText ts
  intro k
  induction k with
  | zero =>
    intro i s H1 acc c done hk hi kH I hacc hdone hR
    have hin : i = xs.length := by omega
    obtain ⟨us, na, r, ea, _⟩ := Inv.lst I (kH _ _ ha)
    obtain ⟨hP, _, _, _, _⟩ := I.pin (P, _) (List.mem_append_right _ (.head _))
    refine codeAny_builtin PySem.F.entry_list_repr_loop ?_
    show wpAny _ _ («list.__repr__.loop» ⟨[.ref a, .int i 0, .ref P, .int ((base + piled (ts.take i) : Nat) : Int) 0], []⟩) _ _ s
    rw [repr_loop_tree]
    refine wpAny_bind (wpAny_listItems ea rfl ?_)
    have hnone : us.toArray[(i : Int).toNat]? = none := by
      have := r.length
      simp [hin, this]
    simp only [hnone]
    unfold reprEnd
    refine wpAny_bind (wpAny_listItems hP rfl ?_)
    rw [hacc, repr_fold]
    refine wpAny_bind (wpAny_pure ?_)
    have hall : done.map (·.1) = ts := by rw [hdone, hin, ← hlen, List.take_length]
    rw [hall]
    refine wpAny_bind (wpAny_mkStr (wpAny_pure ?_) hsz3)
    exact hR _ H1 _ ((I.pins_of fun p hp => I.pin p (List.mem_append_right _ (.tail _ hp))).tok _) (fun _ _ e => e)
  | succ k ih =>
    intro i s H1 acc c done hk hi kH I hacc hdone hR
    have hlt : i < xs.length := by omega
    obtain ⟨t, ht, hrep⟩ := hT.get i xs[i] (List.getElem?_eq_getElem hlt)
    have hp1 := piled_take_succ ht
    have hp2 := piled_take_le ts (i + 1)
    obtain ⟨us, na, r, ea, _⟩ := Inv.lst I (kH _ _ ha)
    have hl := r.length
    have hlu : i < us.length := by omega
    refine codeAny_builtin PySem.F.entry_list_repr_loop ?_
    show wpAny _ _ («list.__repr__.loop» ⟨[.ref a, .int i 0, .ref P, .int ((base + piled (ts.take i) : Nat) : Int) 0], []⟩) _ _ s
    rw [repr_loop_tree]
    refine wpAny_bind (wpAny_listItems ea rfl ?_)
    have hsome : us.toArray[(i : Int).toNat]? = some us[i] := by simp [hlu]
    simp only [hsome]
    rw [Int.toNat_natCast]
    obtain ⟨u0, eu, rv⟩ := r.get (List.getElem?_eq_getElem hlt)
    have eu' : u0 = us[i] := by
      rw [List.getElem?_eq_getElem hlu] at eu
      exact (Option.some.inj eu).symm
    subst eu'
    refine wpAny_bind (wpAny_holding (hrep _ _ _ s σ H1 us[i] (base + piled (ts.take i) + 1) _ _ sb.underL (guards_under_guard (isGuard_list_loop _) hg) (fun b hb => (hcl b hb).cons (a := a) fun e => hna (e ▸ hb)) kH I rv (by omega) fun s' H' I' k' => ?_))
    refine wpAny_bind (wpAny_mkStr ?_ (hsz2 t (List.mem_of_getElem? ht)))
    refine wpAny_bind ?_
    show wpAny _ _ (updateSeq P _) _ _ _
    have hasz : acc.size ≤ sizeLine := by
      have e1 : acc.toList.length = acc.size := by simp
      have e2 : (strValues done).length = done.length := by simp [strValues]
      have e3 : done.length = (ts.take i).length := by rw [← hdone, List.length_map]
      have e4 : (ts.take i).length ≤ i := by rw [List.length_take]; omega
      rw [hacc] at e1; omega
    obtain ⟨hP, nP, _, _, _⟩ := I'.pin (P, _) (List.mem_append_right _ (.head _))
    refine wpAny_updateSeq hP rfl (wpAny_pure ⟨PySem.F.quiet_list_repr_loop _, ?_⟩) hasz
    have e1 : ((i : Int) + 1) = ((i + 1 : Nat) : Int) := by omega
    have e2 : base + piled (ts.take i) + (t.length + 2) = base + piled (ts.take (i + 1)) := by omega
    rw [e1, e2]
    have J : Inv X pins σ H' s' := I'.pins_of fun p hp => I'.pin p (List.mem_append_right _ (.tail _ hp))
    have J1 := J.turned (t' := s'.toks + 1) (h' := s'.heap.update P (Obj.mapSeq (·.push (.str t s'.toks)))) (it := P) (fun b o nb e => (Heap.get?_update_other _ _ (fun h : P = b => nb h.symm)).trans e) nP h4 h1 h2 h3
    have J2 : Inv X ((P, Obj.mapSeq (·.push (.str t s'.toks)) { cls := .type "list", dict := none, data := .seq acc c, slots := #[] }) :: pins) σ H' { s' with heap := s'.heap.update P (Obj.mapSeq (·.push (.str t s'.toks))), toks := s'.toks + 1 } := by
      refine J1.pins_of fun p hp => ?_
      rcases List.mem_cons.mp hp with rfl | hp
      · exact ⟨Heap.get?_update_self _ hP rfl, nP, h4, h5, fun v z => by cases z⟩
      · exact J1.pin p (List.mem_append_right _ hp)
    exact ih (i + 1) _ H' (acc.push (.str t s'.toks)) _ (done ++ [(t, s'.toks)]) (by omega) hlt (kH.trans k') J2 (by simp [hacc, strValues]) (by simp [List.take_add_one, ht, hdone]) fun s2 H2 u I2 k2 => hR s2 H2 u I2 (k'.trans k2)
theorem call_reprL (gd : X.A.guards = some []) (hr : RoomH (n + 2) X.A) :
    CallR X (.builtin "repr") (fun xs H Q => ∃ a x l ts as, xs = [.ref a] ∧ H a = some (.lst (x :: l)) ∧ a ∉ as ∧ ReprsG X n as H (x :: l) ts ∧ (listText ts).length ≤ sizeLine ∧ ∀ H', Same H H' → Q (.str (listText ts)) H') := by
  intro pins s σ H xs us Q I r h
  obtain ⟨a, x, l, ts, as, rfl, ha, hna, hT, sz, q⟩ := h
  cases r with
  | cons r1 r2 =>
    cases r2
    rename_i u
    cases (show u = Value.ref a from r1)
    obtain ⟨us, na, r, ea, _⟩ := Inv.lst I ha
    have un := hr.un
    have dp := hr.dp
    have sb : SubH X (n + 1) X.A.in1 := ⟨⟨by show X.A.depth + 3 * (n + 1) + 5 < _; omega, by show X.A.units + 1 + 16 * (n + 1) + 200 < _; omega⟩, rfl⟩
    refine call_repr_slot (by omega) ⟨_, ea, rfl⟩ PySem.F.slot_list_repr.toG ?_
    refine wpAny_call (codeAny_call_builtin PySem.F.slot_list_repr.plain PySem.F.entry_list_repr (PySem.F.slot_list_repr.check _ _ _ _ _ _ _ _ ⟨_, ea, rfl⟩ (PySem.F.args_list_repr_1 _) ?_))
    cases r with
    | cons ru rl =>
    rename_i u0 us0
    refine wpAny_list_repr_head (A := X.A.in1.in1) (g := []) gd (fun v rest kw hm => nomatch hm) ea rfl ?_
    refine wpAny_bind (m := newList []) (wpAny_newObj_type ?_)
    refine wpAny_pure ⟨PySem.F.quiet_list_repr_loop _, ?_⟩
    have J : Inv X pins σ H { s with heap := s.heap.push { cls := .type "list", dict := none, data := .seq #[] 0, slots := #[] } } := I.kept fun b u e => Heap.get?_push_of_some _ e
    have n0 : s.heap.get? s.heap.objs.size = none := Heap.get?_none_of_le (Nat.le_refl _)
    have n1 : H s.heap.objs.size = none := I.hok.fresh (Nat.le_refl _)
    have n2 : s.heap.objs.size ≠ X.env.locals := Nat.ne_of_gt I.lt
    have n3 : s.heap.objs.size ∉ X.fs := I.nofs (Nat.le_refl _)
    have J2 : Inv X ((s.heap.objs.size, { cls := .type "list", dict := none, data := .seq #[] 0, slots := #[] }) :: pins) σ H { s with heap := s.heap.push { cls := .type "list", dict := none, data := .seq #[] 0, slots := #[] } } := J.pins_of fun p hp => by
      rcases List.mem_cons.mp hp with rfl | hp
      · exact ⟨Heap.get?_push_size _ rfl, n1, n2, n3, fun v z => by cases z⟩
      · exact J.pin p (List.mem_append_right _ hp)
    refine loopG (base := 0) (H := H) sb gd (fun b _ => Clear.nil b) hna ha hT ?_ ?_ ?_ n2 n3 (by omega) _ 0 _ H #[] _ [] rfl (Nat.zero_le _) (fun _ _ e => e) J2 rfl (by simp) (fun s' H' u I' k' => ?_)
    · exact .inr I.sz
    · intro x c e z
      obtain ⟨v, o, ho, _⟩ := I.cell x c e
      rw [z, n0] at ho
      cases ho
    · intro p hp z
      have e := (I.pin p hp).1
      rw [z, n0] at e
      cases e
    · exact ⟨_, _, rfl, V.str (listText ts), H', I', ⟨_, rfl⟩, q H' k'⟩
end
end GL
set_option maxHeartbeats 4000000
namespace K18
open PySem PySem.Spec PyProof.Rows L2 GL
/-! ### repr of a Ratio -/
def reprQ (q : Rat) : Str := ((((Str.empty ++ "Ratio(") ++ toString q.num) ++ ", ") ++ toString (q.den : Int)) ++ ")"
section
variable {P : Program} {w : World} {K : PySem.W.Frag} {mg : Str → Option Value} {base : Heap}
def spRepr (K : PySem.W.Frag) : Sp := fun vs H Q _ => ∃ (a : Addr) (q : Rat), vs = [.ref a] ∧ RatAt K H a q ∧ Sz 900 q ∧ Q (.str (reprQ q)) H
theorem scRepr : FnScope ["self"] ["self"] (defScope (sRatio 15)) := ⟨rfl, rfl, rfl, by decide +kernel, rfl, by decide +kernel, by decide +kernel⟩
theorem ok_repr {f : Addr} {fd : FuncData} (F : FunD K "__repr__" "Ratio.__repr__" (defArgs (sRatio 15)) (defBody (sRatio 15)) (defScope (sRatio 15)) [] [] f fd) (T : RF K mg) : FnC P w K mg base 1 f fd ["self"] (spRepr K) := by
  obtain ⟨oc, od, dV, kV, doc, pm, an, cdv, ct, osl, rfl, lk, hcd, _, _⟩ := F.ex
  refine fnC_of lk hcd scRepr (fun vs H Q E h => ?_) (fun A out s H vs Q hr h => ?_)
  · obtain ⟨a, q, rfl, _⟩ := h
    rfl
  · obtain ⟨a, q, rfl, ⟨d, e⟩, sz, k⟩ := h
    refine ⟨_, pss_one (ps_ret (pe_joined (.cons pe_str (.cons (pe_fmt (pe_fld (pv 0) rfl)) (.cons pe_str (.cons (pe_fmt (pe_fld (pv 0) rfl)) (.cons pe_str .nil))))))), ?_⟩
    have l1 : q.num.natAbs.log2 < 1920 := Nat.lt_trans (log2_lt sz.1 (by decide)) (by decide)
    have l2 : (q.den : Int).natAbs.log2 < 1920 := Nat.lt_trans (log2_lt sz.den (by decide)) (by decide)
    have n1 : (Str.ofString (toString q.num)).length ≤ 1921 := by
      rw [PySem.ofString_length]
      exact int_text_length_le (by decide) l1
    have n2 : (Str.ofString (toString (q.den : Int))).length ≤ 1921 := by
      rw [PySem.ofString_length]
      exact int_text_length_le (by decide) l2
    have m0 : (Str.ofString "Ratio(").length = 6 := by decide +kernel
    have m1 : (Str.ofString ", ").length = 2 := by decide +kernel
    have m2 : (Str.ofString ")").length = 1 := by decide +kernel
    have e0 : Str.empty.length = 0 := rfl
    have line := sizeLine_eq
    refine ⟨_, rfl, by rw [strLen_append]; omega, ?_⟩
    refine ⟨_, rfl, a, _, d, _, _, rfl, e, T.cl, T.nT, rfl, .inr ⟨_, rfl, l1, ?_⟩⟩
    refine ⟨_, rfl, by rw [strLen_append, strLen_append]; omega, ?_⟩
    refine ⟨_, rfl, by rw [strLen_append, strLen_append, strLen_append]; omega, ?_⟩
    refine ⟨_, rfl, a, _, d, _, _, rfl, e, T.cl, T.nB, rfl, .inr ⟨_, rfl, l2, ?_⟩⟩
    refine ⟨_, rfl, by rw [strLen_append, strLen_append, strLen_append, strLen_append]; omega, ?_⟩
    refine ⟨_, rfl, by rw [strLen_append, strLen_append, strLen_append, strLen_append, strLen_append]; omega, ?_⟩
    exact k
end
theorem reprQ_len {q : Rat} (sz : Sz 900 q) : (reprQ q).length ≤ 3900 := by
  have l1 : q.num.natAbs.log2 < 1920 := Nat.lt_trans (log2_lt sz.1 (by decide)) (by decide)
  have l2 : (q.den : Int).natAbs.log2 < 1920 := Nat.lt_trans (log2_lt sz.den (by decide)) (by decide)
  have n1 : (Str.ofString (toString q.num)).length ≤ 1921 := by
    rw [PySem.ofString_length]
    exact int_text_length_le (by decide) l1
  have n2 : (Str.ofString (toString (q.den : Int))).length ≤ 1921 := by
    rw [PySem.ofString_length]
    exact int_text_length_le (by decide) l2
  have m0 : (Str.ofString "Ratio(").length = 6 := by decide +kernel
  have m1 : (Str.ofString ", ").length = 2 := by decide +kernel
  have m2 : (Str.ofString ")").length = 1 := by decide +kernel
  have e0 : Str.empty.length = 0 := rfl
  unfold reprQ
  rw [strLen_append, strLen_append, strLen_append, strLen_append, strLen_append]
  omega
/-- what repr of a Ratio is done by -/
def RepF (P : Program) (w : World) (K : PySem.W.Frag) (mg : Str → Option Value) (base : Heap) : Prop := ∃ f fd, Meth K (aR K) "__repr__" f ∧ FnC P w K mg base 1 f fd ["self"] (spRepr K) ∧ Binds K fd ["self"] []
theorem upG {Y : Cx} {n : Nat} {as : List Addr} {x : V} {t : Str} {H : Hp} {m : Nat} (h : ReprG Y n as x t H) (le : n ≤ m) : ReprG Y m as x t H := fun A g pins s σ H1 u b E Q sb => h A g pins s σ H1 u b E Q ⟨sb.room.mono le, sb.fr⟩

/-! ### repr of conditions -/
def rowText (r : Row) : Str := tupleText [reprText r.1, reprText r.2.1, reprQ r.2.2]
def rowsText (rows : List Row) : Str := tupleText (rows.map rowText)
structure RowZ (r : Row) : Prop where
  nm : (reprText r.1).length ≤ 200
  sd : (reprText r.2.1).length ≤ 200
  sz : Sz 900 r.2.2
theorem rowText_len {r : Row} (h : RowZ r) : (rowText r).length ≤ 4400 := by
  have t := PySem.fmt_text [reprText r.1, reprText r.2.1, reprQ r.2.2]
  have l := reprQ_len h.sz
  have n := h.nm
  have s := h.sd
  rw [piled_cons, piled_cons, piled_cons, piled_nil] at t
  unfold rowText
  omega
theorem piled_rows : ∀ {rows : List Row}, (∀ r ∈ rows, RowZ r) → piled (rows.map rowText) ≤ rows.length * 4402
  | [], _ => Nat.le_refl 0
  | r :: t, h => by
    have ih := piled_rows fun x hx => h x (List.mem_cons_of_mem _ hx)
    have a := rowText_len (h r List.mem_cons_self)
    rw [List.map_cons, piled_cons, List.length_cons, Nat.add_mul]
    omega
theorem rowsText_len {rows : List Row} (h : ∀ r ∈ rows, RowZ r) (l : rows.length ≤ 8) : (rowsText rows).length ≤ 40000 := by
  have t := PySem.fmt_text (rows.map rowText)
  have p := piled_rows h
  have m : rows.length * 4402 ≤ 8 * 4402 := Nat.mul_le_mul_right _ l
  unfold rowsText
  omega
theorem reprG_rat {Y : Cx} {as : List Addr} {H : Hp} {p : Addr} {q : Rat} (R : RepF Y.prog Y.w Y.K Y.mg Y.base) (hp : RatAt Y.K H p q) (sz : Sz 900 q) : ReprG Y 1 as (.ref p) (reprQ q) H := by
  obtain ⟨f, fd, B, F, hb⟩ := R
  obtain ⟨d, e⟩ := id hp
  exact ReprG.own B F hb e fun H1 k => ⟨p, q, rfl, hp.same k, sz, rfl, fun _ _ z => z⟩
def IsCond (H : Hp) (c : Addr) : Prop := ∃ (s1 s2 : Str) (p : V), H c = some (.tup [.str s1, .str s2, p])
theorem line200 {s : Str} (h : s.length ≤ 200) : s.length ≤ sizeLine := Nat.le_trans h (by rw [sizeLine_eq]; decide)
theorem reprsG_rows {Y : Cx} {H : Hp} (R : RepF Y.prog Y.w Y.K Y.mg Y.base) : ∀ {ys : List V} {rows : List Row}, RowsL Y.K H ys rows → (∀ r ∈ rows, RowZ r) → ∃ cs : List Addr, (∀ c ∈ cs, IsCond H c) ∧ ∀ bs : List Addr, (∀ c ∈ cs, c ∈ bs) → ReprsG Y 2 bs H ys (rows.map rowText)
  | [], [], _, _ => ⟨[], (fun c h => by cases h), fun _ _ => .nil⟩
  | [], _ :: _, ⟨l, _⟩, _ => by cases l
  | _ :: _, [], ⟨l, _⟩, _ => by cases l
  | v :: ys, r :: rows, ⟨l, h⟩, z => by
    obtain ⟨cs, hc, g⟩ := reprsG_rows R (ys := ys) (rows := rows) ⟨Nat.succ.inj l, fun i v r a b => h (i + 1) v r a b⟩ fun x hx => z x (List.mem_cons_of_mem _ hx)
    obtain ⟨c, p, rfl, ec, hp⟩ := h 0 v r rfl rfl
    have zr := z r List.mem_cons_self
    refine ⟨c :: cs, fun d hd => ?_, fun bs sub => .cons ?_ (g bs fun d hd => sub d (List.mem_cons_of_mem _ hd))⟩
    · rcases List.mem_cons.mp hd with rfl | hd
      · exact ⟨_, _, _, ec⟩
      · exact hc d hd
    · refine (ReprG.tup (as := []) (ts := [reprText r.1, reprText r.2.1, reprQ r.2.2]) ec List.not_mem_nil (.cons (ReprG.str (line200 zr.nm)) (.cons (ReprG.str (line200 zr.sd)) (.cons (reprG_rat R hp zr.sz) .nil)))).more fun d hd => ?_
      rw [List.mem_singleton] at hd
      rw [hd]
      exact sub c List.mem_cons_self
theorem rows_notin {K : PySem.W.Frag} {H : Hp} {t : Addr} {ys : List V} {rows : List Row} {as : List Addr} (ht : H t = some (.tup ys)) (h : RowsL K H ys rows) (ic : ∀ c ∈ as, IsCond H c) : t ∉ as := by
  intro m
  obtain ⟨s1, s2, p, e⟩ := ic t m
  rw [ht] at e
  injection e with e
  injection e with e
  subst e
  match rows, h with
  | [], ⟨l, _⟩ => cases l
  | r :: rows, ⟨l, h⟩ =>
    obtain ⟨c, p, e, _⟩ := h 0 _ r rfl rfl
    cases e
theorem reprG_rows {Y : Cx} {H : Hp} {t : Addr} {rows : List Row} (R : RepF Y.prog Y.w Y.K Y.mg Y.base) (h : RowsAt Y.K H t rows) (z : ∀ r ∈ rows, RowZ r) : ∃ as : List Addr, (∀ c ∈ as, ∃ xs, H c = some (.tup xs)) ∧ ReprG Y 3 as (.ref t) (rowsText rows) H := by
  obtain ⟨ys, ht, hy⟩ := h
  obtain ⟨cs, hc, g⟩ := reprsG_rows R hy z
  refine ⟨t :: cs, fun c hm => ?_, ReprG.tup ht (rows_notin ht hy hc) (g cs fun _ hm => hm)⟩
  rcases List.mem_cons.mp hm with rfl | hm
  · exact ⟨_, ht⟩
  · obtain ⟨_, _, _, e⟩ := hc c hm
    exact ⟨_, e⟩
/-- repr of a tuple of conditions; of a list of two texts and such a tuple -/
def partsText (g a : Str) (rows : List Row) : Str := listText [reprText g, reprText a, rowsText rows]
def rRepK (K : PySem.W.Frag) : List V → Hp → VK → Prop := fun xs H Q =>
  (∃ (t : Addr) (rows : List Row), xs = [.ref t] ∧ RowsAt K H t rows ∧ (∀ r ∈ rows, RowZ r) ∧ rows.length ≤ 8 ∧ ∀ H', Same H H' → Q (.str (rowsText rows)) H') ∨
  (∃ (l t : Addr) (g a : Str) (rows : List Row), xs = [.ref l] ∧ H l = some (.lst [.str g, .str a, .ref t]) ∧ (reprText g).length ≤ 200 ∧ (reprText a).length ≤ 200 ∧ RowsAt K H t rows ∧ (∀ r ∈ rows, RowZ r) ∧ rows.length ≤ 8 ∧ ∀ H', Same H H' → Q (.str (partsText g a rows)) H') ∨
  (∃ (l : Addr) (s : Str) (b : Bool), xs = [.ref l] ∧ H l = some (.lst [.str s, .bl b]) ∧ (reprText s).length ≤ 200 ∧ ∀ H', Same H H' → Q (.str (listText [reprText s, if b then "True" else "False"])) H')
theorem call_repK {Y : Cx} (R : RepF Y.prog Y.w Y.K Y.mg Y.base) (gd : Y.A.guards = some []) (hr : L2H.RoomH 5 Y.A) : CallR Y (.builtin "repr") (rRepK Y.K) := by
  intro pins s σ H xs us Q I r h
  have line := sizeLine_eq
  rcases h with ⟨t, rows, rfl, ⟨ys, ht, hy⟩, z, l8, q⟩ | ⟨l, t, g, a, rows, rfl, hl, zg, za, ht, z, l8, q⟩ | ⟨l, x, b, rfl, hl, zs, q⟩
  · obtain ⟨cs, hc, g⟩ := reprsG_rows R hy z
    exact call_reprG (n := 2) gd (hr.mono (by decide)) pins s σ H _ us Q I r ⟨t, ys, rows.map rowText, cs, rfl, SqT.of ht, rows_notin ht hy hc, g cs fun _ hm => hm, Nat.le_trans (rowsText_len z l8) (by rw [line]; decide), q⟩
  · obtain ⟨as, ha, gt⟩ := reprG_rows R ht z
    refine call_reprL (n := 3) gd hr pins s σ H _ us Q I r ⟨l, _, _, [reprText g, reprText a, rowsText rows], as, rfl, hl, fun m => ?_, .cons (ReprG.str (line200 zg)) (.cons (ReprG.str (line200 za)) (.cons gt .nil)), ?_, q⟩
    · obtain ⟨xs, e⟩ := ha l m
      rw [hl] at e
      cases e
    · have n := rowsText_len z l8
      have p := listText_le [reprText g, reprText a, rowsText rows]
      rw [piled_cons, piled_cons, piled_cons, piled_nil] at p
      rw [line]
      omega
  · refine call_reprL (n := 3) gd hr pins s σ H _ us Q I r ⟨l, _, _, [reprText x, if b then "True" else "False"], [], rfl, hl, List.not_mem_nil, .cons (ReprG.str (line200 zs)) (.cons ReprG.bl .nil), ?_, q⟩
    have n : ((if b = true then "True" else "False" : String) : Str).length ≤ 5 := by cases b <;> decide +kernel
    have e : (if b = true then ("True" : Str) else "False") = ((if b = true then "True" else "False" : String) : Str) := by cases b <;> rfl
    have p := listText_le [reprText x, if b = true then ("True" : Str) else "False"]
    rw [piled_cons, piled_cons, piled_nil, e] at p
    rw [e, line]
    omega
end K18
set_option maxHeartbeats 4000000
/-! == of a thing with itself, inside a builtin. -/
namespace GL
open PySem PySem.Spec PyProof.Rows L2
def IdB : DB := fun x y b _ => (∃ a, x = .ref a ∧ y = .ref a) ∧ b = true
theorem monB_id : MonB IdB := fun _ _ _ _ _ _ d => d
theorem eqB_id {X : Cx} : EqB X 0 IdB := by
  intro A pins s σ H x y u v b sb I rx ry d
  obtain ⟨⟨a, rfl, rfl⟩, rfl⟩ := d
  cases (show u = Value.ref a from rx)
  cases (show v = Value.ref a from ry)
  exact SeqAt.EqAt.same (A := A) (s := s) (.ref a) X.prog X.w X.xe _ ⟨rfl, H, I, fun _ _ e => e⟩
/-- flat things, and what is the same -/
def SelfB : DB := fun x y b H => FlatB x y b H ∨ IdB x y b H
theorem monB_self : MonB SelfB := monB_flat.or monB_id
theorem eqB_self {X : Cx} : EqB X 0 SelfB := eqB_flat.or eqB_id
/-- what is equal to itself -/
def selfV : V → Bool
  | .ref _ => true
  | .non | .bl _ | .int _ | .str _ => true
  | _ => false
theorem self_same {v : V} {H : Hp} (h : selfV v = true) : SelfB v v true H := by
  cases v with
  | ref a => exact .inr ⟨⟨a, rfl, rfl⟩, rfl⟩
  | non => exact .inl ⟨rfl, rfl, rfl⟩
  | bl b => exact .inl ⟨rfl, rfl, by cases b <;> rfl⟩
  | int i => exact .inl ⟨rfl, rfl, by simp [eqV]⟩
  | str s => exact .inl ⟨rfl, rfl, by simp [eqV]⟩
  | _ => cases h
end GL
/-! A list of texts has one sorted form. -/
namespace GL
open PySem PySem.Spec PyProof.Rows L2
def leS (a b : Str) : Prop := a.cps.toList ≤ b.cps.toList
theorem leS_trans {a b c : Str} (h : leS a b) (k : leS b c) : leS a c := List.le_trans h k
theorem leS_anti {a b : Str} (h : leS a b) (k : leS b a) : a = b := by
  have e : a.cps.toList = b.cps.toList := List.le_antisymm h k
  cases a
  cases b
  rw [Array.toList_inj] at e
  exact congrArg _ e
theorem rising_pair : ∀ {l : List Str} {p : Str}, risingS p l = true → (p :: l).Pairwise leS
  | [], p, _ => List.pairwise_singleton _ _
  | x :: r, p, h => by
    unfold risingS at h
    rw [Bool.and_eq_true, ltCps_eq] at h
    have le : leS p x := by
      have z := h.1
      simp only [Bool.not_eq_true', decide_eq_false_iff_not] at z
      exact z
    have ih := rising_pair h.2
    refine List.pairwise_cons.mpr ⟨fun y hy => ?_, ih⟩
    rcases List.mem_cons.mp hy with rfl | hy
    · exact le
    · exact leS_trans le ((List.pairwise_cons.mp ih).1 y hy)
theorem sorted_pair : ∀ {l : List Str}, sortedS l = true → l.Pairwise leS
  | [], _ => .nil
  | _ :: _, h => rising_pair h
theorem sorted_one {xs ys : List Str} (p : xs.Perm ys) (h1 : sortedS xs = true) (h2 : sortedS ys = true) : xs = ys :=
  p.eq_of_pairwise (fun _ _ _ _ a b => leS_anti a b) (sorted_pair h1) (sorted_pair h2)
/-- lists of the very same things are equal -/
theorem lstSelf {H : Hp} {a c : Addr} {xs : List V} (ha : H a = some (.lst xs)) (hc : H c = some (.lst xs)) (s : ∀ v ∈ xs, selfV v = true) : LstB SelfB (.ref a) (.ref c) true H := by
  refine ⟨a, c, xs, xs, fun _ => true, rfl, rfl, ha, hc, rfl, fun i x y _ e1 e2 => ?_, ?_⟩
  · obtain rfl : x = y := Option.some.inj (e1.symm.trans e2)
    exact self_same (s x (List.mem_of_getElem? e1))
  · unfold PySem.GE.allB
    simp
end GL
set_option maxHeartbeats 4000000
namespace K18
open PySem PySem.Spec PyProof.Rows L2 GL
abbrev sParts : Stmt := tp 62
abbrev sKept : Stmt := tp 63
section
variable {P : Program} {w : World} {K : PySem.W.Frag} {mg : Str → Option Value} {base : Heap}
/-- what a rule tells of itself -/
structure TellF (P : Program) (w : World) (K : PySem.W.Frag) (mg : Str → Option Value) (base : Heap) : Prop where
  U : UF K mg
  go : PropX P w K mg base (aRu K) "goal" (spRuTell K true)
  an : PropX P w K mg base (aRu K) "answer" (spRuTell K false)
  wh : MetX P w K mg base (aRu K) "when" 1 ["self"] (spRuWhen K)
  mo : MetX P w K mg base (aRu K) "moves" 1 ["self"] (spRuMoves K)
def spLParts (K : PySem.W.Frag) : Sp := fun vs H Q _ => ∃ (s : Addr) (g a : Str) (rows : List Row) (ms : List (Str × Mvd)), vs = [.ref s] ∧ RuleM K H s g a rows ms ∧ ∀ l t d H', Same H H' → H l = none → H' l = some (.lst [.str g, .str a, .ref t, .ref d]) → RowsAt K H' t rows → Q (.ref l) H'
theorem scParts : FnScope ["_law_rule"] ["_law_rule"] (defScope sParts) := ⟨rfl, rfl, rfl, by decide +kernel, rfl, by decide +kernel, by decide +kernel⟩
theorem ok_parts {f : Addr} {fd : FuncData} (F : Fun K "_law_parts" "_law_parts" sParts f fd) (Z : TellF P w K mg base) : FnOk P w K mg base CX0 3 f fd ["_law_rule"] (spLParts K) := by
  obtain ⟨p1, g1, fd1, P1, G1, b1⟩ := Z.go
  obtain ⟨p2, g2, fd2, P2, G2, b2⟩ := Z.an
  obtain ⟨fW, fdW, mW, GW, bW⟩ := Z.wh
  obtain ⟨fO, fdO, mO, GO, bO⟩ := Z.mo
  have T := Z.U
  refine F.ok scParts (fun vs H Q E h => ?_) (fun cdv A outer s H vs Q E hr h => ?_)
  · obtain ⟨s, g, a, rows, ms, rfl, _⟩ := h
    rfl
  · obtain ⟨s0, g, a, rows, ms, rfl, hs, k⟩ := h
    refine ⟨_, pss_one (ps_ret (pe_lst (pa_cons (pe_prop (pv 0) T.cl P1 G1 hr b1 .nil pass0 rfl) (pa_cons (pe_prop (pv 0) T.cl P2 G2 hr b2 .nil pass0 rfl) (pa_cons (pe_meth0 (pv 0) T.cl mW GW (hr.mono (by decide)) bW .nil pass0) (pa_cons (pe_meth0 (pv 0) T.cl mO GO (hr.mono (by decide)) bO .nil pass0) pa_nil)))))), ?_⟩
    obtain ⟨kvs, ⟨dx, tw, md, es, r⟩, mm⟩ := id hs
    refine ⟨_, rfl, s0, dx, _, rfl, es, s0, g, a, rows, ms, rfl, hs, ?_⟩
    refine ⟨_, rfl, s0, dx, _, rfl, es, s0, g, a, rows, ms, rfl, hs, ?_⟩
    refine ⟨_, rfl, s0, dx, _, rfl, es, rfl, s0, g, a, rows, ms, rfl, hs, fun t ht => ?_⟩
    refine ⟨_, rfl, s0, dx, _, rfl, es, rfl, s0, g, a, rows, ms, rfl, hs, fun d kvs' H1 s1 nd hd hm => ?_⟩
    refine ⟨(by show 4 ≤ sizeLine; decide), fun l nl => ?_⟩
    have u := same_new (o := .lst [V.str (if true = true then g else a), .str (if false = true then g else a), .ref t, .ref d]) nl
    obtain ⟨ys, et, ry⟩ := ht
    exact k l t d _ (s1.trans u) (none_of s1 nl) upd_same ⟨ys, (s1.trans u) _ _ et, ry.same (s1.trans u)⟩
/-- what the law asks of a rule's parts with -/
structure KeptF (P : Program) (w : World) (K : PySem.W.Frag) (mg : Str → Option Value) (base : Heap) : Prop where
  L : TellF P w K mg base
  N : NF K mg
  RR : RepF P w K mg base
  rp : mg "repr" = none
  srt : mg "sorted" = none
  mq : ∃ f, OwnEq K (aM K) f ∧ FnR P w K mg base CX0 3 f (spMEq K)
  M : MkM P w K mg base
/-- what is due of a rule: its goal, answer, conditions, moves in any sequence -/
structure DueAt (K : PySem.W.Frag) (G : Hp) (du : Addr) (g a : Str) (rows : List Row) (ms : List (Str × Mvd)) (t dm : Addr) (kvd : List (Key × V)) : Prop where
  du : G du = some (.lst [.str g, .str a, .ref t, .ref dm])
  t : RowsAt K G t rows
  dm : G dm = some (.dK kvd)
  mv : MvsAt K G kvd ms
  nd : (ms.map (·.1)).Nodup
  l64 : ms.length < 64
  l8 : rows.length ≤ 8
  z : ∀ r ∈ rows, RowZ r
  zg : (reprText g).length ≤ 200
  za : (reprText a).length ≤ 200
theorem RowsAt.same {H H' : Hp} {t : Addr} {rows : List Row} (h : RowsAt K H t rows) (k : Same H H') : RowsAt K H' t rows := by
  obtain ⟨ys, e, r⟩ := h
  exact ⟨ys, k _ _ e, r.same k⟩
theorem DueAt.same {G G' : Hp} {du t dm : Addr} {g a : Str} {rows : List Row} {ms : List (Str × Mvd)} {kvd : List (Key × V)} (h : DueAt K G du g a rows ms t dm kvd) (k : Same G G') : DueAt K G' du g a rows ms t dm kvd :=
  { h with du := k _ _ h.du, t := h.t.same k, dm := k _ _ h.dm, mv := h.mv.same k }
def spKept (K : PySem.W.Frag) : Sp := fun vs H Q _ => ∃ (s sg du t dm : Addr) (cg : V) (G : Hp) (g a : Str) (rows : List Row) (ms ms' : List (Str × Mvd)) (kvd kvg : List (Key × V)), vs = [.ref s, cg, .ref sg, .ref du] ∧ Same G H ∧ G sg = none ∧ H sg = some (.dK kvg) ∧ kvg.length < 64 ∧
  ((∃ c xs, cg = .ref c ∧ H c = some (.lst xs) ∧ xs.length < 64 ∧ G c = none) ∨ ∃ c xs, cg = .ref c ∧ H c = some (.tup xs)) ∧ RuleM K G s g a rows ms' ∧ SortM ms ms' ∧ DueAt K G du g a rows ms t dm kvd ∧ ∀ H', Same G H' → Q (.bl true) H'
abbrev nKept : List Str := ["_law_rule", "_law_claims_given", "_law_shifts_given", "_law_due", "_law_told_here"]
theorem scKept : FnScope nKept ["_law_rule", "_law_claims_given", "_law_shifts_given", "_law_due"] (defScope sKept) := ⟨rfl, rfl, rfl, by decide +kernel, rfl, by decide +kernel, by decide +kernel⟩
theorem ok_kept {f : Addr} {fd : FuncData} (F : Fun K "_law_kept" "_law_kept" sKept f fd) (Z : KeptF P w K mg base) (pa : DefF P w K mg base "_law_parts" 3 ["_law_rule"] (spLParts K)) : FnG P w K mg base CX0 8 f fd ["_law_rule", "_law_claims_given", "_law_shifts_given", "_law_due"] (spKept K) := by
  obtain ⟨fP, fdP, GP_, gP, bP, kP⟩ := pa
  obtain ⟨fW, fdW, mW, GW, bW⟩ := Z.L.wh
  obtain ⟨fO, fdO, mO, GO, bO⟩ := Z.L.mo
  obtain ⟨fE, oE, GE⟩ := Z.mq
  obtain ⟨fM, fdM, MM, GM, bM⟩ := Z.M.mM
  have TM := Z.M.T
  have T := Z.L.U
  have N := Z.N
  refine Fun.okG F scKept (fun vs H Q E h => ?_) (fun cdv A outer s H vs Q E gd hr h => ?_)
  · obtain ⟨s, sg, du, t, dm, cg, G, g, a, rows, ms, ms', kvd, kvg, rfl, _⟩ := h
    rfl
  · obtain ⟨s0, sg, du, t, dm, cg, G, g, a, rows, ms, ms', kvd, kvg, rfl, sG, nsg, esg, lkg, hcg, hs, so, D, k⟩ := h
    have hu := hr.units
    have hu1 : (A.deeper (envOfC "_law_kept" (defScope sKept) s.heap.objs.size f cdv)).units + 1 < cLine := by omega
    have r5 := hr.mono (show 5 ≤ 7 by decide)
    have rh : L2H.RoomH 5 (A.deeper (envOfC "_law_kept" (defScope sKept) s.heap.objs.size f cdv)) := ⟨r5.dp, r5.un⟩
    refine ⟨_, pss_cons (ps_if (PW.pt (pw_or (pt_cmpR op_ne (pe_callB (call_repK Z.RR gd rh) (by rfl) Z.rp (by decide +kernel) (pa_cons (pe_slice sl_list (pe_call GP_ (hr.mono (by decide)) rfl gP kP bP .nil pass0 (pa_cons (pv 0) pa_nil)) po_none (po_some pe_int)) pa_nil))
          (pe_callB (call_repK Z.RR gd rh) (by rfl) Z.rp (by decide +kernel) (pa_cons (pe_slice sl_list (pv 3) po_none (po_some pe_int)) pa_nil)) (nomark _))
          (pw_or1 (pt_cmpR (op_neDc monB_mov (eqB_mov oE GE) (hr.mono (by decide))) (pe_meth0 (pv 0) T.cl mO GO (hr.mono (by decide)) bO .nil pass0) (pe_ix ix_list (pv 3) pe_int (fun _ _ => rfl)) (nomark _))))) (pss_one (ps_ret pe_bl)) pss_nil)
      (pss_cons (ps_if (pt_cmpR (op_neL monB_self eqB_self (hr.mono (by decide))) (pe_callTy (call_listD rfl) (by rfl) N.list (by decide +kernel) (pa_cons (pe_meth0 (pv 0) T.cl mO GO (hr.mono (by decide)) bO .nil pass0) pa_nil)) (pe_callB (call_sortedD rfl) (by rfl) Z.srt (by decide +kernel) (pa_cons (pe_ix ix_list (pv 3) pe_int (fun _ _ => rfl)) pa_nil)) (nomark _)) (pss_one (ps_ret pe_bl)) pss_nil)
      (pss_cut (ps_if (pt_val (pe_callB call_isi (by rfl) N.isi (by decide +kernel) (pa_cons (pv 1) (pa_cons (pe_bltn (v := .ty "list") (by rfl) N.list (by decide +kernel) rfl) pa_nil))))
          (pss_one (ps_expr (pe_bm PySem.F.plainAttrs_list PySem.F.slot_list_append PySem.F.type_list_append mt_append (pv 1) (pa_cons (pe_tup (pa_cons pe_str (pa_cons pe_str (pa_cons pe_int pa_nil)))) pa_nil)))) pss_nil)
      (pss_cons (ps_dput hu1 (pv 2) pe_str (pe_make MM GM hr rfl TM.gM bM .nil pass0 (pa_cons pe_int (pa_cons pe_int (pa_cons pe_int (pa_cons pe_int pa_nil))))) rfl)
      (pss_cons (ps_set (i := 4) scKept.nd rfl (Or.inl rfl) (pe_meth0 (pv 0) T.cl mO GO (hr.mono (by decide)) bO .nil pass0))
      (pss_cons (ps_dput hu1 (pv 4) pe_str (pe_make MM GM hr rfl TM.gM bM .nil pass0 (pa_cons pe_int (pa_cons pe_int (pa_cons pe_int (pa_cons pe_int pa_nil))))) rfl)
      (pss_one (ps_ret (pe_and (pe_cmpR op_eq (pe_callB (call_repK Z.RR gd rh) (by rfl) Z.rp (by decide +kernel) (pa_cons (pe_meth0 (pv 0) T.cl mW GW (hr.mono (by decide)) bW .nil pass0) pa_nil)) (pe_callB (call_repK Z.RR gd rh) (by rfl) Z.rp (by decide +kernel) (pa_cons (pe_ix ix_list (pv 3) pe_int (fun _ _ => rfl)) pa_nil)) (nomark _))
          (pe_one (pe_cmpR (op_eqDc monB_mov (eqB_mov oE GE) (hr.mono (by decide))) (pe_meth0 (pv 0) T.cl mO GO (hr.mono (by decide)) bO .nil pass0) (pe_ix ix_list (pv 3) pe_int (fun _ _ => rfl)) (nomark _))))))))))), ?_⟩
    obtain ⟨kvs, ⟨dx, tw, md, es, r⟩, mm⟩ := id hs
    have me : mvEq ms' ms = true := mvEq_perm D.nd so.1
    have cut3 : ∀ (x y z v : V), cutV [x, y, z, v] none (some 3) = [x, y, z] := fun _ _ _ _ => rfl
    refine ⟨_, rfl, s0, g, a, rows, ms', rfl, hs.same sG, fun l1 t1 d1 H1 s1 n1 e1 rt1 => ?_⟩
    refine ⟨_, rfl, l1, _, rfl, SqL.of e1, fun l2 n2 => ?_⟩
    have u2 := same_new (o := .lst [V.str g, .str a, .ref t1]) n2
    refine .inr (.inl ⟨l2, t1, g, a, rows, rfl, upd_same, D.zg, D.za, rt1.same u2, D.z, D.l8, fun H2 s2 => ?_⟩)
    have sG2 := ((sG.trans s1).trans u2).trans s2
    refine ⟨_, rfl, _, rfl, du, _, rfl, SqL.of (sG2 _ _ D.du), fun l3 n3 => ?_⟩
    have u3 := same_new (o := .lst [V.str g, .str a, .ref t]) n3
    refine .inr (.inl ⟨l3, t, g, a, rows, rfl, upd_same, D.zg, D.za, (D.t.same sG2).same u3, D.z, D.l8, fun H3 s3 => ?_⟩)
    refine ⟨rfl, _, rfl, ?_⟩
    have e0 : (!decide (V.str (partsText g a rows) = V.str (partsText g a rows))) = false := by simp
    rw [e0]
    refine iteF ?_
    have sG3 := (sG2.trans u3).trans s3
    have hs3 := hs.same sG3
    refine ⟨_, rfl, s0, dx, _, rfl, sG3 _ _ es, rfl, s0, g, a, rows, ms', rfl, hs3, fun d4 kv4 H4 s4 n4 e4 m4 => ?_⟩
    have sG4 := sG3.trans s4
    refine ⟨_, rfl, du, _, _, _, rfl, rfl, SqL.of (sG4 _ _ D.du), rfl, ?_⟩
    refine ⟨_, mvs_dict e4 (sG4 _ _ D.dm) m4 (D.mv.same sG4), fun H5 s5 => ⟨_, rfl, ?_⟩⟩
    rw [me]
    refine iteF ?_
    have sG5 := sG4.trans s5
    refine ⟨_, rfl, s0, dx, _, rfl, sG5 _ _ es, rfl, s0, g, a, rows, ms', rfl, hs.same sG5, fun d6 kv6 H6 s6 n6 e6 m6 => ?_⟩
    have sG6 := sG5.trans s6
    have ke : kv6.map (fun kv => kV kv.1) = (ms'.map (·.1)).map V.str := by
      have z := congrArg (List.map kV) m6.keys
      rw [List.map_map, List.map_map] at z
      exact z
    refine ⟨d6, kv6, rfl, .of e6, fun l6 nl6 => ?_⟩
    rw [ke]
    have u6 := same_new (o := .lst ((ms'.map (·.1)).map V.str)) nl6
    have hl6 : upd H6 l6 (.lst ((ms'.map (·.1)).map V.str)) l6 = some (.lst ((ms'.map (·.1)).map V.str)) := upd_same
    generalize upd H6 l6 (.lst ((ms'.map (·.1)).map V.str)) = H6' at u6 hl6 ⊢
    have sG6' := sG6.trans u6
    refine ⟨_, rfl, du, _, _, _, rfl, rfl, SqL.of (sG6' _ _ D.du), rfl, dm, kvd, ms.map (·.1), rfl, .of (sG6' _ _ D.dm), D.mv.keys, by rw [List.length_map]; exact D.l64, fun ys l7 py sy nl7 => ?_⟩
    have ye : ys = ms'.map (·.1) := sorted_one (py.trans (so.1.map (·.1)).symm) sy so.2
    subst ye
    have u7 := same_new (o := .lst ((ms'.map (·.1)).map V.str)) nl7
    have hl7 : upd H6' l7 (.lst ((ms'.map (·.1)).map V.str)) l7 = some (.lst ((ms'.map (·.1)).map V.str)) := upd_same
    generalize upd H6' l7 (.lst ((ms'.map (·.1)).map V.str)) = H7 at u7 hl7 ⊢
    refine ⟨true, lstSelf (u7 _ _ hl6) hl7 (fun v hv => by obtain ⟨n, _, rfl⟩ := List.mem_map.mp hv; rfl), fun H8 s8 => ⟨_, rfl, iteF ?_⟩⟩
    have sH8 : Same H H8 := fun b o e => s8 b o (u7 b o (u6 b o (s6 b o (s5 b o (s4 b o (s3 b o (u3 b o (s2 b o (u2 b o (s1 b o e))))))))))
    have sG8 : Same G H8 := sG.trans sH8
    have esg8 := sH8 _ _ esg
    refine ⟨fun z H' => z = [some (.ref s0), some cg, some (.ref sg), some (.ref du), none] ∧ Same G H' ∧ H' sg = some (.dK kvg), ?_, ?_⟩
    · rcases hcg with ⟨c, xs, rfl, hc, lx, nc⟩ | ⟨c, xs, rfl, hc⟩
      · refine ⟨_, rfl, .ref c, .ty "list", .type "list", _, true, rfl, .ty _, .base (.lst (sH8 _ _ hc)), kit_ty (by decide +kernel), true, rfl, iteT ?_⟩
        refine ⟨_, rfl, .inl ⟨rfl, _, SqL.of (sH8 _ _ hc)⟩, (by show 3 ≤ sizeLine; decide), fun t9 n9 => ?_⟩
        have u9 := same_new (o := .tup [V.str "zz", .str "from", .int 1]) n9
        have hc9 := u9 _ _ (sH8 _ _ hc)
        have e9 := u9 _ _ esg8
        have ne9 : sg ≠ c := fun z => by rw [z, hc9] at e9; cases e9
        refine ⟨c, xs, _, rfl, rfl, hc9, by rw [sizeLine_eq]; omega, rfl, fun b o e => ?_, ?_⟩
        · rw [upd_ne (fun z => by rw [z, nc] at e; cases e)]
          exact u9 _ _ (sG8 _ _ e)
        · rw [upd_ne ne9]
          exact e9
      · refine ⟨_, rfl, .ref c, .ty "list", .type "tuple", _, false, rfl, .ty _, .base (.tup (sH8 _ _ hc)), kit_ty (by decide +kernel), false, rfl, iteF ?_⟩
        exact ⟨rfl, sG8, esg8⟩
    · rintro z H9 ⟨rfl, sG9, e9⟩
      intro x dx1 hx hdx nex
      refine made_movR hx hdx (by decide) (.inl ⟨0, rfl, rfl⟩) (.inl ⟨0, rfl, rfl⟩) (.inl ⟨0, rfl, rfl⟩) (Sz.mono (n := 30) ⟨by decide +kernel, by decide +kernel⟩ (by decide)) (Sz.mono (n := 30) ⟨by decide +kernel, by decide +kernel⟩ (by decide)) (by decide +kernel) fun H10 s10 hm10 => ⟨rfl, ?_⟩
      refine ⟨_, rfl, sg, _, rfl, DPut.k (k := Sum.inr "zz") (s10 _ _ e9) (by rw [sizeLine_eq]; omega), ?_⟩
      have sG11 : Same G (upd H10 sg (.dK (putK kvg (Sum.inr "zz") (.ref x)))) := fun b o e => by
        rw [upd_ne (fun z => by rw [z, nsg] at e; cases e)]
        exact s10 _ _ (sG9 _ _ e)
      generalize upd H10 sg (.dK (putK kvg (Sum.inr "zz") (.ref x))) = H11 at sG11 ⊢
      refine ⟨_, rfl, s0, dx, _, rfl, sG11 _ _ es, rfl, s0, g, a, rows, ms', rfl, hs.same sG11, fun d12 kv12 H12 s12 n12 e12 m12 => ?_⟩
      have sG12 := sG11.trans s12
      have gd12 : G d12 = none := none_of sG11 n12
      intro y dx2 hy hdy ney
      refine made_movR hy hdy (by decide) (.inl ⟨1, rfl, rfl⟩) (.inl ⟨0, rfl, rfl⟩) (.inl ⟨0, rfl, rfl⟩) (Sz.mono (n := 30) ⟨by decide +kernel, by decide +kernel⟩ (by decide)) (Sz.mono (n := 30) ⟨by decide +kernel, by decide +kernel⟩ (by decide)) (by decide +kernel) fun H13 s13 hm13 => ⟨rfl, ?_⟩
      refine ⟨_, rfl, d12, _, rfl, DPut.k (k := Sum.inr "yy") (s13 _ _ e12) (by rw [m12.len, so.1.length_eq, sizeLine_eq]; exact Nat.lt_of_lt_of_le D.l64 (by decide)), ?_⟩
      have sG14 : Same G (upd H13 d12 (.dK (putK kv12 (Sum.inr "yy") (.ref y)))) := fun b o e => by
        rw [upd_ne (fun z => by rw [z, gd12] at e; cases e)]
        exact s13 _ _ (sG12 _ _ e)
      generalize upd H13 d12 (.dK (putK kv12 (Sum.inr "yy") (.ref y))) = H14 at sG14 ⊢
      refine ⟨_, rfl, s0, dx, _, rfl, sG14 _ _ es, rfl, s0, g, a, rows, ms', rfl, hs.same sG14, fun t15 rt15 => ?_⟩
      refine .inl ⟨t15, rows, rfl, rt15, D.z, D.l8, fun H15 s15 => ?_⟩
      have sG15 := sG14.trans s15
      refine ⟨_, rfl, du, _, _, _, rfl, rfl, SqL.of (sG15 _ _ D.du), rfl, .inl ⟨t, rows, rfl, D.t.same sG15, D.z, D.l8, fun H16 s16 => ?_⟩⟩
      have sG16 := sG15.trans s16
      refine ⟨rfl, _, rfl, ?_⟩
      have e1 : (decide (V.str (rowsText rows) = V.str (rowsText rows))) = true := by simp
      rw [e1]
      refine iteT ?_
      refine ⟨_, rfl, s0, dx, _, rfl, sG16 _ _ es, rfl, s0, g, a, rows, ms', rfl, hs.same sG16, fun d17 kv17 H17 s17 n17 e17 m17 => ?_⟩
      have sG17 := sG16.trans s17
      refine ⟨_, rfl, du, _, _, _, rfl, rfl, SqL.of (sG17 _ _ D.du), rfl, ?_⟩
      refine ⟨_, mvs_dict e17 (sG17 _ _ D.dm) m17 (D.mv.same sG17), fun H18 s18 => ?_⟩
      rw [me]
      exact k _ (sG17.trans s18)
end
end K18
set_option maxHeartbeats 4000000
namespace K18
open PySem PySem.Spec PyProof.Rows L2 GL
abbrev sApplied : Stmt := tp 61
/-! ### a dict whose values stand for things -/
def KvR {α : Type} (R : V → α → Prop) : List (Key × V) → List (Str × α) → Prop
  | [], [] => True
  | (k, v) :: r, (n, x) :: t => k = Sum.inr n ∧ R v x ∧ KvR R r t
  | _, _ => False
section
variable {α : Type} {R R' : V → α → Prop}
theorem KvR.imp (f : ∀ v x, R v x → R' v x) : ∀ {kvs : List (Key × V)} {ms : List (Str × α)}, KvR R kvs ms → KvR R' kvs ms
  | [], [], _ => trivial
  | (_, _) :: _, (_, _) :: _, ⟨e, h, t⟩ => ⟨e, f _ _ h, t.imp f⟩
  | [], _ :: _, h => h.elim
  | _ :: _, [], h => h.elim
theorem KvR.len : ∀ {kvs : List (Key × V)} {ms : List (Str × α)}, KvR R kvs ms → kvs.length = ms.length
  | [], [], _ => rfl
  | (_, _) :: _, (_, _) :: _, ⟨_, _, t⟩ => by rw [List.length_cons, List.length_cons, t.len]
  | [], _ :: _, h => h.elim
  | _ :: _, [], h => h.elim
theorem KvR.keys : ∀ {kvs : List (Key × V)} {ms : List (Str × α)}, KvR R kvs ms → kvs.map (·.1) = (ms.map (·.1)).map Sum.inr
  | [], [], _ => rfl
  | (_, _) :: _, (_, _) :: _, ⟨e, _, t⟩ => by simp only [List.map_cons, t.keys, e]
  | [], _ :: _, h => h.elim
  | _ :: _, [], h => h.elim
theorem KvR.snoc {n : Str} {x : α} {v : V} (h : R v x) : ∀ {kvs : List (Key × V)} {ms : List (Str × α)}, KvR R kvs ms → KvR R (kvs ++ [(Sum.inr n, v)]) (ms ++ [(n, x)])
  | [], [], _ => ⟨rfl, h, trivial⟩
  | (_, _) :: _, (_, _) :: _, ⟨e, y, t⟩ => ⟨e, y, t.snoc h⟩
  | [], _ :: _, h => h.elim
  | _ :: _, [], h => h.elim
theorem KvR.at : ∀ {kvs : List (Key × V)} {ms : List (Str × α)} {i : Nat} {k : Key} {v : V}, KvR R kvs ms → kvs[i]? = some (k, v) → ∃ n x, k = Sum.inr n ∧ ms[i]? = some (n, x) ∧ R v x
  | [], [], _, _, _, _, e => by cases e
  | (_, _) :: _, (_, _) :: _, 0, _, _, ⟨e, h, _⟩, z => by
    cases z
    exact ⟨_, _, e, rfl, h⟩
  | (_, _) :: _, (_, _) :: _, i + 1, _, _, ⟨_, _, t⟩, z => t.at (i := i) z
  | [], _ :: _, _, _, _, h, _ => h.elim
  | _ :: _, [], _, _, _, h, _ => h.elim
theorem KvR.look (u : Str) : ∀ {kvs : List (Key × V)} {ms : List (Str × α)}, KvR R kvs ms → (ms.lookup u = none ∧ valV kvs (Sum.inr u) = none) ∨ ∃ x v, ms.lookup u = some x ∧ valV kvs (Sum.inr u) = some v ∧ R v x ∧ (u, x) ∈ ms
  | [], [], _ => .inl ⟨rfl, valV_nil⟩
  | (k, v) :: r, (n, x) :: t, ⟨e, h, tl⟩ => by
    subst e
    by_cases z : n = u
    · subst z
      exact .inr ⟨x, v, by simp [List.lookup], by simp [valV], h, List.mem_cons_self⟩
    · have ne : (u == n) = false := beq_eq_false_iff_ne.mpr (Ne.symm z)
      have e1 : ((n, x) :: t).lookup u = t.lookup u := by simp [List.lookup, ne]
      have e2 : valV ((Sum.inr n, v) :: r) (Sum.inr u) = valV r (Sum.inr u) := by simp [valV, z]
      rw [e1, e2]
      exact (tl.look u).imp id fun ⟨x, v, h1, h2, h3, h4⟩ => ⟨x, v, h1, h2, h3, List.mem_cons_of_mem _ h4⟩
  | [], _ :: _, h => h.elim
  | _ :: _, [], h => h.elim
end
section
variable {P : Program} {w : World} {K : PySem.W.Frag} {mg : Str → Option Value} {base : Heap}
/-- the numbers of the levels, as the law has them -/
abbrev NmsAt (H : Hp) : List (Key × V) → List (Str × Rat) → Prop := KvR fun v x => ∃ c, v = .ref c ∧ PartAt H c x
/-- .. as they are given -/
abbrev GvsAt (K : PySem.W.Frag) (H : Hp) : List (Key × V) → List (Str × Rat) → Prop := KvR (NumAt K H)
theorem GvsAt.lev {H : Hp} {d : Addr} {kvs : List (Key × V)} {nums : List (Str × Rat)} (hd : H d = some (.dK kvs)) (h : GvsAt K H kvs nums) (sz : ∀ x ∈ nums, Sz 100000 x.2) : LevAt K H d (fun u => nums.lookup u) :=
  ⟨kvs, hd, fun u => (h.look u).imp id fun ⟨x, v, h1, h2, h3, h4⟩ => ⟨x, v, h1, h2, h3, sz _ h4⟩⟩
theorem valV_at : ∀ {kvs : List (Key × V)} {i : Nat} {k : Key} {v : V}, (kvs.map (·.1)).Nodup → kvs[i]? = some (k, v) → valV kvs k = some v
  | [], _, _, _, _, h => by cases h
  | x :: r, 0, k, v, _, h => by
    cases h
    exact valV_pos rfl
  | x :: r, i + 1, k, v, nd, h => by
    rw [List.map_cons, List.nodup_cons] at nd
    rw [valV_neg (fun z => nd.1 (List.mem_map.mpr ⟨(k, v), List.mem_of_getElem? (i := i) h, z.symm⟩))]
    exact valV_at (i := i) nd.2 h
theorem mergeK_new : ∀ (more kvs : List (Key × V)), ((kvs ++ more).map (·.1)).Nodup → mergeK kvs more = kvs ++ more
  | [], kvs, _ => by simp [mergeK]
  | (k, v) :: r, kvs, h => by
    have n : k ∉ kvs.map (·.1) := fun z => by
      rw [List.map_append, List.nodup_append] at h
      exact h.2.2 k z k (by simp) rfl
    show mergeK (putK kvs k v) r = _
    rw [putK_new n, mergeK_new r _ (by rw [List.append_assoc]; exact h), List.append_assoc]
    rfl
theorem KvR.filter {α : Type} {R : V → α → Prop} {f : Key → Bool} : ∀ {kvs : List (Key × V)} {ms : List (Str × α)}, KvR R kvs ms → KvR R (kvs.filter fun kv => f kv.1) (ms.filter fun x => f (Sum.inr x.1))
  | [], [], _ => trivial
  | (k, v) :: r, (n, x) :: t, ⟨e, h, tl⟩ => by
    subst e
    have ih := tl.filter (f := f)
    rw [List.filter_cons, List.filter_cons]
    cases z : f (Sum.inr n) with
    | true => exact ⟨rfl, h, ih⟩
    | false => exact ih
  | [], _ :: _, h => h.elim
  | _ :: _, [], h => h.elim
theorem first_at {nm : Str} : ∀ {rows : List Row}, (∃ r ∈ rows, r.1 = nm) → ∃ (j : Nat) (r : Row), rows[j]? = some r ∧ r.1 = nm ∧ ∀ (i : Nat) (u : Row), i < j → rows[i]? = some u → u.1 ≠ nm
  | [], h => by
    obtain ⟨r, h, _⟩ := h
    cases h
  | r :: t, h => by
    by_cases c : r.1 = nm
    · exact ⟨0, r, rfl, c, fun i u h => absurd h (Nat.not_lt_zero _)⟩
    · obtain ⟨j, r', h1, h2, h3⟩ := first_at (rows := t) (by
        obtain ⟨x, hx, e⟩ := h
        rcases List.mem_cons.mp hx with rfl | hx
        · exact absurd e c
        · exact ⟨x, hx, e⟩)
      refine ⟨j + 1, r', h1, h2, fun i u hi hu => ?_⟩
      match i, hu with
      | 0, hu =>
        cases hu
        exact c
      | i + 1, hu => exact h3 i u (by omega) hu
theorem lookup_ne {α : Type} {n u : Str} {x : α} {l : List (Str × α)} (h : u ≠ n) : ((n, x) :: l).lookup u = l.lookup u := by
  have ne : (u == n) = false := beq_eq_false_iff_ne.mpr h
  simp [List.lookup, ne]
theorem NumAt.keep {H H' : Hp} {v : V} {x : Rat} (h : NumAt K H v x) (k : ∀ b C dx fs, H b = some (.ins C dx fs) → H' b = some (.ins C dx fs)) : NumAt K H' v x := by
  rcases h with h | ⟨p, e, d, h⟩
  · exact .inl h
  · exact .inr ⟨p, e, d, k _ _ _ _ h⟩
theorem Rng.ne_ins {H : Hp} {p b C dx : Addr} {fs : List (Str × V)} (R : Rng H p) (e : H b = some (.ins C dx fs)) : b ≠ p := (Zp.sm (R.zp_ins e)).1
theorem more_new : ("more" : Str) ∉ names3 := by decide +kernel
/-! conditions as data -/
def dRow (r : Row) : PyData := .tuple [.str r.1, .str r.2.1, .tuple [.int r.2.2.num, .int (r.2.2.den : Int)]]
theorem cls_dp {H : Hp} : ∀ {xs : List V} {rows : List Row}, ClsAt H xs rows → DpAll K H xs (rows.map dRow)
  | [], [], _ => .nil
  | _ :: _, r :: _, ⟨⟨c, q, e, hc, hq⟩, t⟩ => by
    subst e
    exact .cons (.tup (SqT.of hc) (.cons (.str _) (.cons (.str _) (.cons (.tup (SqT.of hq) (.cons (.int _) (.cons (.int _) .nil))) .nil)))) (cls_dp t)
  | [], _ :: _, h => h.elim
  | _ :: _, [], h => h.elim
theorem rows_lay : ∀ {rows : List Row}, (∀ r ∈ rows, PyData.strOk r.1 = true ∧ PyData.strOk r.2.1 = true) → PyData.canLayAll0 (rows.map dRow) = true ∧ PyData.depthAll (rows.map dRow) ≤ 10
  | [], _ => ⟨by simp [PyData.canLayAll0], by simp [PyData.depthAll]⟩
  | r :: t, h => by
    obtain ⟨i1, i2⟩ := rows_lay fun x hx => h x (List.mem_cons_of_mem _ hx)
    obtain ⟨h1, h2⟩ := h r List.mem_cons_self
    have d : (dRow r).depth ≤ 10 := by
      unfold dRow
      simp only [PyData.depth, PyData.depthAll]
      omega
    refine ⟨?_, ?_⟩
    · rw [List.map_cons]
      unfold PyData.canLayAll0
      rw [i1, Bool.and_true]
      unfold dRow
      simp [PyData.canLay0, PyData.canLayAll0, h1, h2]
    · rw [List.map_cons]
      simp only [PyData.depthAll]
      omega
theorem rows_shaped {rows : List Row} (h : ∀ r ∈ rows, PyData.strOk r.1 = true ∧ PyData.strOk r.2.1 = true) : SeqAt.shaped (.list (rows.map dRow)) = true := by
  obtain ⟨h1, h2⟩ := rows_lay h
  unfold SeqAt.shaped
  rw [Bool.and_eq_true]
  refine ⟨by simp [PyData.canLay0, h1], decide_eq_true ?_⟩
  simp only [PyData.depth]
  omega
theorem names_ok : ∀ u ∈ names3, PyData.strOk u = true := by
  have h : names3.all PyData.strOk = true := by decide +kernel
  exact fun u hu => List.all_eq_true.mp h u hu
theorem side_ok {sd : Str} (h : sideB sd = true) : PyData.strOk sd = true := by
  rcases sideB_cases h with e | e | e | e <;> (rw [e]; decide +kernel)
/-- what the law asks of applies with -/
structure AppF (P : Program) (w : World) (K : PySem.W.Frag) (mg : Str → Option Value) (base : Heap) : Prop where
  L : LTo P w K mg base
  T : Free mg
  N : NF K mg
  RR : RepF P w K mg base
  rp : mg "repr" = none
  dr : DefF P w K mg base "_law_draw" 1 ["_law_pot_here", "_law_many"] spDraw
  pk : DefF P w K mg base "_law_pick" 2 ["_law_pot_here", "_law_some"] (spChoice K)
  bt : DefF P w K mg base "_law_between" 2 ["_law_low", "_law_high", "_law_share"] (spBetween K)
  gv : DefF P w K mg base "_law_given" 4 ["_law_pot_here", "_law_pair"] (spGiven K)
  ho : DefF P w K mg base "_law_holds" 2 ["_law_claim", "_law_numbers"] (spHolds K)
  to : DefF P w K mg base "_law_told" 8 ["_law_rule", "_law_numbers"] (spTold K)
def spApplied (K : PySem.W.Frag) : Sp := fun vs H Q _ => ∃ (p s c Ds lc Dm : Addr) (kvs kvm : List (Key × V)) (xs : List V) (sp : Spd) (rows : List Row) (g a g' a' : Str) (ms ms' : List (Str × Mvd)), vs = [.ref p, .ref s, .ref c] ∧ Rng H p ∧ RowAt (Zp p H) c Ds lc Dm kvs kvm xs sp rows g a ms ∧ RuleM K (Zp p H) s g' a' rows ms' ∧ ∀ H', Same (off H p) H' → Rng H' p → Q (.bl true) H'
abbrev nApplied : List Str := ["_law_pot_here", "_law_rule", "_law_row_here", "_law_spans_here", "_law_claims_here", "_law_turn", "_law_numbers", "_law_passed", "_law_name_now", "_law_due", "_law_lacking", "_law_fewer", "_law_is_wanted", "_law_claim"]
theorem scApplied : FnScope nApplied ["_law_pot_here", "_law_rule", "_law_row_here"] (defScope sApplied) := ⟨rfl, rfl, rfl, by decide +kernel, rfl, by decide +kernel, by decide +kernel⟩
theorem ok_applied {f : Addr} {fd : FuncData} (F : Fun K "_law_applied" "_law_applied" sApplied f fd) (Z : AppF P w K mg base) : FnG P w K mg base CX0 9 f fd ["_law_pot_here", "_law_rule", "_law_row_here"] (spApplied K) := by
  obtain ⟨fD, fdD, GD, gD, bD, kD⟩ := Z.dr
  obtain ⟨fC, fdC, GC_, gC, bC, kC⟩ := Z.pk
  obtain ⟨fB, fdB, GB_, gB, bB, kB⟩ := Z.bt
  obtain ⟨fG, fdG, GG_, gG, bG, kG⟩ := Z.gv
  obtain ⟨fH, fdH, GH_, gH, bH, kH⟩ := Z.ho
  obtain ⟨fT, fdT, GT_, gT, bT, kT⟩ := Z.to
  obtain ⟨fA, fdA, mA, GA_, bA⟩ := Z.L.ap
  have T := Z.L.U
  have N := Z.N
  refine Fun.okG F scApplied (fun vs H Q E h => ?_) (fun cdv A outer s H vs Q E gd hr h => ?_)
  · obtain ⟨p, s, c, Ds, lc, Dm, kvs, kvm, xs, sp, rows, g, a, g', a', ms, ms', rfl, _⟩ := h
    rfl
  · obtain ⟨p, s0, c, Ds, lc, Dm, kvs, kvm, xs, sp, rows, g, a, g', a', ms, ms', rfl, R, row, rule, k⟩ := h
    have hu := hr.units
    have hu1 : (A.deeper (envOfC "_law_applied" (defScope sApplied) s.heap.objs.size f cdv)).units + 1 < cLine := by omega
    have hu2 : (A.deeper (envOfC "_law_applied" (defScope sApplied) s.heap.objs.size f cdv)).units < cLine := by omega
    have hu64 : (A.deeper (envOfC "_law_applied" (defScope sApplied) s.heap.objs.size f cdv)).units + 64 < cLine := by omega
    have r5 := hr.mono (show 5 ≤ 8 by decide)
    have rh : L2H.RoomH 5 (A.deeper (envOfC "_law_applied" (defScope sApplied) s.heap.objs.size f cdv)) := ⟨r5.dp, r5.un⟩
    refine ⟨_, pss_cons (ps_par (i := 3) (j := 4) (by rfl) scApplied.nd rfl rfl (by decide) rfl rfl (pa_cons (pe_ix ix_tup (pv 2) pe_int (fun _ _ => rfl)) (pa_cons (pe_ix ix_tup (pv 2) pe_int (fun _ _ => rfl)) pa_nil)) (by rfl))
      (pss_cons (ps_for PassesOwn.never rfl (pi_range1 (by rfl) Z.T.range (pa_cons pe_int pa_nil)) (pg_name (i := 5) scApplied.nd rfl (Or.inl rfl))
        (pss_cons (ps_asg (pe_tup (pa_cons pe_dnewK (pa_cons (pe_disp (pps_cons pe_str pe_int pps_nil) rfl rfl (by simp) (by decide)) pa_nil))) (pg_tup (by rfl) (pgs_cons (pg_name (i := 6) scApplied.nd rfl (.inr rfl)) (pgs_cons (pg_name (i := 7) scApplied.nd rfl (.inr rfl)) pgs_nil))))
        (pss_cut (ps_lock (ps_for PassesOwn.never rfl (pi_keys (pv 3)) (pg_name (i := 8) scApplied.nd rfl (Or.inl rfl))
          (pss_cons (ps_dput hu1 (pv 6) (pv 8) (pe_call GB_ (hr.mono (by decide)) rfl gB kB bB .nil pass0 (pa_cons (pe_ix ix_tup (pe_dget hu1 (pv 3) (pv 8) (fun _ _ => rfl)) pe_int (fun _ _ => rfl)) (pa_cons (pe_ix ix_tup (pe_dget hu1 (pv 3) (pv 8) (fun _ _ => rfl)) pe_int (fun _ _ => rfl)) (pa_cons (pe_call GD (hr.mono (by decide)) rfl gD kD bD .nil pass0 (pa_cons (pv 0) (pa_cons pe_int pa_nil))) pa_nil)))) rfl)
          (pss_one (ps_dput hu1 (pv 7) (pv 8) (pe_call GG_ (hr.mono (by decide)) rfl gG kG bG .nil pass0 (pa_cons (pv 0) (pa_cons (pe_dget hu1 (pv 6) (pv 8) (fun _ _ => rfl)) pa_nil))) rfl)))))
        (pss_cons (ps_set (i := 9) scApplied.nd rfl (Or.inl rfl) (pe_callB (cr_all rfl) (by rfl) N.all (by decide +kernel) (pa_cons (pe_lc (own := [("_law_claim", 13)]) (g := gName 13) (tt := tYes) (te := tCall (spHolds K) [] E0 (tCons (tVar 13) (tCons (tVar 6) tNil))) rfl scApplied.nd (pi_list (pv 4))
            (blkOk_by (own := [("_law_claim", 13)]) (N := nApplied) (sc := defScope sApplied) (by decide +kernel)) (fun _ _ _ _ _ => pg_name (i := 13) scApplied.nd rfl (Or.inl rfl)) (fun _ _ _ _ _ => pts_nil)
            (fun _ _ _ _ _ => by exact (pe_call GH_ (hr.mono (by decide)) rfl gH kH bH .nil pass0 (pa_cons (pv 13) (pa_cons (pv 6) pa_nil))))) pa_nil)))
        (pss_cons (ps_if (pt_cmpR op_ne (pe_callB (call_repK Z.RR gd rh) (by rfl) Z.rp (by decide +kernel) (pa_cons (pe_call GT_ hr rfl gT kT bT .nil pass0 (pa_cons (pv 1) (pa_cons (pv 7) pa_nil))) pa_nil)) (pe_callB (call_repK Z.RR gd rh) (by rfl) Z.rp (by decide +kernel) (pa_cons (pe_lst (pa_cons pe_str (pa_cons (pv 9) pa_nil))) pa_nil)) (nomark _)) (pss_one (ps_ret pe_bl)) pss_nil)
        (pss_cons (ps_set (i := 10) scApplied.nd rfl (Or.inr rfl) (pe_call GC_ (hr.mono (by decide)) rfl gC kC bC .nil pass0 (pa_cons (pv 0) (pa_cons (pe_lst (pa_cons pe_str (pa_cons pe_str (pa_cons pe_str pa_nil)))) pa_nil))))
        (pss_cons (ps_set (i := 11) scApplied.nd rfl (Or.inl rfl) (pe_lock (pe_callTy (call_dictP rfl) (by rfl) N.dict (by decide +kernel) (pa_cons (pe_lc (own := [("_law_name_now", 8)]) (g := gName 8) rfl scApplied.nd (pi_keys (pv 7))
            (blkOk_by (own := [("_law_name_now", 8)]) (N := nApplied) (sc := defScope sApplied) (by decide +kernel)) (fun _ _ _ _ _ => pg_name (i := 8) scApplied.nd rfl (Or.inl rfl)) (fun _ _ _ _ _ => pts_one (pt_cmpR op_ne (pv 8) (pv 10) (nomark _)))
            (fun _ _ _ _ _ => by exact (pe_tup (pa_cons (pv 8) (pa_cons (pe_dget hu1 (pv 7) (pv 8) (fun _ _ => rfl)) pa_nil))))) pa_nil))))
        (pss_cons (ps_set (i := 12) scApplied.nd rfl (Or.inl rfl) (pe_cmpR op_in_seq (pv 10) (pe_lc (own := [("_law_claim", 13)]) (g := gName 13) (tt := tYes) rfl scApplied.nd (pi_list (pv 4))
            (blkOk_by (own := [("_law_claim", 13)]) (N := nApplied) (sc := defScope sApplied) (by decide +kernel)) (fun _ _ _ _ _ => pg_name (i := 13) scApplied.nd rfl (Or.inl rfl)) (fun _ _ _ _ _ => pts_nil)
            (fun _ _ _ _ _ => by exact (pe_ix (show IxR _ (rIxT K) from ix_tup) (pv 13) pe_int (fun _ _ => rfl)))) (by with_unfolding_all rfl)))
        (pss_one (ps_if (PW.pt (pw_and (pt_val (pv 12)) (pw_and1 (pt_cmpR (op_neL monB_self eqB_self (hr.mono (by decide))) (pe_call GT_ hr rfl gT kT bT .nil pass0 (pa_cons (pv 1) (pa_cons (pv 11) pa_nil))) (pe_lst (pa_cons pe_str (pa_cons (pv 10) (pa_cons pe_bl (pa_cons pe_bl pa_nil))))) (nomark _))))) (pss_one (ps_ret pe_bl)) pss_nil))))))))))
      (pss_cons (ps_if (pt_cmpR (op_eqD hu64) (pv 4) (pe_lst pa_nil) (nomark _)) (pss_one (ps_ret (pe_cmpR op_isB (pe_meth (pv 1) T.cl mA (K18.FnOk.ground GA_) (hr.mono (by decide)) bA .nil pass0 (pa_cons pe_dnewK pa_nil)) pe_bl (nomark _)))) pss_nil)
      (pss_one (ps_ret (pe_cmpR (op_eqL monB_self eqB_self (hr.mono (by decide))) (pe_call GT_ hr rfl gT kT bT .nil pass0 (pa_cons (pv 1) (pa_cons pe_dnewK pa_nil))) (pe_lst (pa_cons pe_str (pa_cons (pe_ix ix_tup (pe_ix ix_list (pv 4) pe_int (fun _ _ => rfl)) pe_int (fun _ _ => rfl)) (pa_cons pe_bl (pa_cons pe_bl pa_nil))))) (nomark _)))))), ?_⟩
    have hc := row.c
    have toH : ∀ b o, Zp p H b = some o → H b = some o := fun b o e => (Zp.sm e).2.1
    refine ⟨_, rfl, c, _, _, _, rfl, rfl, SqT.of (toH _ _ hc), rfl, _, rfl, c, _, _, _, rfl, rfl, SqT.of (toH _ _ hc), rfl, _, _, rfl, ?_⟩
    refine ⟨4, rfl, (by decide), (by decide), for_range (lo := 0) (n := 4) (fun i z G => Same (off H p) G ∧ Rng G p ∧ ∃ v5 v6 v7 v8 v9 v10 v11 v12, z = [some (.ref p), some (.ref s0), some (.ref c), some (.ref Ds), some (.ref lc), v5, v6, v7, v8, v9, v10, v11, v12, none]) ⟨fun b o e => (off_some e).2, R, none, none, none, none, none, none, none, none, rfl⟩ ?_ ?_⟩
    · rintro i z G hi ⟨sG, RG, v5, v6, v7, v8, v9, v10, v11, v12, rfl⟩
      have A0 := At.nil RG
      intro dn ndn
      have A1 := A0.new (o := .dK []) ndn (fun _ z => by cases z)
      generalize upd G dn (.dK []) = G1 at A1 ⊢
      intro dp ndp
      refine ⟨upd_same, [(Sum.inr "more", V.int 3)], rfl, by decide, ?_⟩
      rw [upd_upd, show mergeK [] [(Sum.inr ("more" : Str), V.int 3)] = [((Sum.inr "more" : Key), V.int 3)] from rfl]
      have A2 := A1.new (o := .dK [(Sum.inr "more", V.int 3)]) ndp (fun _ z => by cases z)
      generalize upd G1 dp (.dK [(Sum.inr "more", V.int 3)]) = G2 at A2 ⊢
      refine ⟨(by show 2 ≤ sizeLine; decide), fun t nt => ?_⟩
      have A3 := A2.new (o := .tup [V.ref dn, .ref dp]) nt (fun _ z => by cases z)
      generalize upd G2 t (.tup [V.ref dn, .ref dp]) = G3 at A3 ⊢
      refine ⟨t, _, rfl, SqT.of (A3.at (i := 0) rfl), rfl, _, _, rfl, _, _, rfl, rfl, ?_⟩
      have s3 : Same (off H p) G3 := fun b o e => A3.s b o (by rw [off_ne (off_some e).1]; exact sG b o e)
      have hdn3 : G3 dn = some (.dK []) := A3.at (i := 2) rfl
      have hdp3 : G3 dp = some (.dK [(Sum.inr "more", V.int 3)]) := A3.at (i := 1) rfl
      have npn : dp ≠ dn := fun z => by rw [z] at hdp3; rw [hdn3] at hdp3; cases hdp3
      have dnp : dn ≠ p := (Zp.sm (A3.get (i := 2) rfl)).1
      have dpp : dp ≠ p := (Zp.sm (A3.get (i := 1) rfl)).1
      have R3 := A3.r
      have z3 := Zp.offs s3
      have hDs3 : G3 Ds = some (.dK kvs) := (Zp.sm (z3 _ _ row.ds)).2.1
      have Dsp : Ds ≠ p := (Zp.sm row.ds).1
      have hDsG : G Ds = some (.dK kvs) := sG _ _ (by rw [off_ne Dsp]; exact toH _ _ row.ds)
      have Dsdn : Ds ≠ dn := ne_of_none hDsG ndn
      have Dsdp : Ds ≠ dp := ne_of_none (A1.s _ _ (by rw [off_ne Dsp]; exact hDsG)) ndp
      have spo := row.sok
      have l3 := spo.l3
      have sps3 : SpsAt G3 kvs sp := (row.sps.same z3).same (Zp.to p G3)
      have sl : kvs.length = sp.length := row.sps.len
      refine ⟨fun z H' => Same (off H p) H' ∧ Rng H' p ∧ ∃ kvn kvp nums w8, z = [some (.ref p), some (.ref s0), some (.ref c), some (.ref Ds), some (.ref lc), some (.int (0 + i)), some (.ref dn), some (.ref dp), w8, v9, v10, v11, v12, none] ∧ Zp p H' dn = some (.dK kvn) ∧ Zp p H' dp = some (.dK kvp) ∧ NmsAt (Zp p H') kvn nums ∧ GvsAt K (Zp p H') kvp (("more", 3) :: nums) ∧ nums.map (·.1) = sp.map (·.1) ∧ ∀ x ∈ nums, Sz 80 x.2, ?_, ?_⟩
      · refine ⟨Ds, _, hDs3, trivial, fun od => ?_⟩
        refine ⟨_, rfl, Ds, od, rfl, .inl ⟨kvs, upd_same, ?_⟩⟩
        have RL : Rng (upd G3 Ds (.frz od (.dK kvs))) p := rng_upd R3 Dsp
        have hLL : upd G3 Ds (.frz od (.dK kvs)) Ds = some (.frz od (.dK kvs)) := upd_same
        have hdnL : upd G3 Ds (.frz od (.dK kvs)) dn = some (.dK []) := (upd_ne Dsdn.symm).trans hdn3
        have hdpL : upd G3 Ds (.frz od (.dK kvs)) dp = some (.dK [(Sum.inr "more", V.int 3)]) := (upd_ne Dsdp.symm).trans hdp3
        have spL : SpsAt (upd G3 Ds (.frz od (.dK kvs))) kvs sp := sps3.keep fun b xs e => by rw [upd_ne (fun z => by rw [z, hDs3] at e; cases e)]; exact e
        obtain ⟨HL, eL⟩ : ∃ X, X = upd G3 Ds (.frz od (.dK kvs)) := ⟨_, rfl⟩
        have nOL : off HL p Ds = some (.frz od (.dK kvs)) := by rw [off_ne Dsp, eL]; exact hLL
        have tupL : ∀ (G' : Hp), (∀ b o, off HL p b = some o → b ≠ dn → b ≠ dp → G' b = some o) → ∀ b xs, HL b = some (.tup xs) → G' b = some (.tup xs) := fun G' s b xs e => s b _ (by
          rw [off_ne (fun z => ?_)]
          · exact e
          · rw [z] at e
            rw [← eL] at RL
            obtain ⟨x1, x2, e3, _⟩ := RL
            rw [e] at e3
            cases e3) (fun z => by rw [← eL] at hdnL; rw [z, hdnL] at e; cases e) (fun z => by rw [← eL] at hdpL; rw [z, hdpL] at e; cases e)
        refine for_it walk_keys (fun j z G' => (∀ b o, off HL p b = some o → b ≠ dn → b ≠ dp → G' b = some o) ∧ Rng G' p ∧ ∃ kvn kvp nums w8, z = [some (.ref p), some (.ref s0), some (.ref c), some (.ref Ds), some (.ref lc), some (.int (0 + i)), some (.ref dn), some (.ref dp), w8, v9, v10, v11, v12, none] ∧ G' dn = some (.dK kvn) ∧ G' dp = some (.dK kvp) ∧ NmsAt G' kvn nums ∧ GvsAt K G' kvp (("more", 3) :: nums) ∧ nums.map (·.1) = (sp.map (·.1)).take j ∧ ∀ x ∈ nums, Sz 80 x.2) ?_ ?_ ?_ ?_
        · rw [← eL] at RL hdnL hdpL ⊢
          exact ⟨fun b o e _ _ => (off_some e).2, RL, [], [(Sum.inr "more", V.int 3)], [], v8, rfl, hdnL, hdpL, trivial, ⟨rfl, .inl ⟨3, rfl, rfl⟩, trivial⟩, rfl, fun x hx => by cases hx⟩
        · rintro j z G' hj ⟨s, _⟩
          exact s _ _ nOL Dsdn Dsdp
        · rintro j y z G' G0 hj ⟨s, RG', kvn, kvp, nums, w8, rfl, hdn, hdp, nms, gvs, keys, sz⟩ ⟨rfl, key, v, hk, rfl⟩
          obtain ⟨u, hu2, rfl⟩ : ∃ u, (sp.map (·.1))[j]? = some u ∧ key = Sum.inr u := by
            have z := congrArg (Option.map Prod.fst) hk
            rw [← List.getElem?_map] at z
            rw [row.sps.keys, List.getElem?_map] at z
            obtain ⟨u, h1, h2⟩ := Option.map_eq_some_iff.mp z
            exact ⟨u, h1, h2.symm⟩
          have umem := List.mem_of_getElem? hu2
          obtain ⟨lo, hi_, cc, aa, bb, mem, _, ev, hcc, haa, hbb⟩ := spL.look umem
          obtain ⟨szl, szh, le⟩ := spo.ok _ mem
          rw [← eL] at hcc haa hbb
          have frzG := s _ _ nOL Dsdn Dsdp
          have tG := tupL _ s
          refine ⟨_, rfl, _, rfl, Ds, .ref cc, rfl, .inl ⟨kvs, .inr u, .inr ⟨od, frzG⟩, rfl, ev.symm⟩, cc, _, _, _, rfl, rfl, SqT.of (tG _ _ hcc), rfl, _, rfl, _, rfl, Ds, .ref cc, rfl, .inl ⟨kvs, .inr u, .inr ⟨od, frzG⟩, rfl, ev.symm⟩, cc, _, _, _, rfl, rfl, SqT.of (tG _ _ hcc), rfl, ?_⟩
          refine ⟨_, rfl, p, 5, rfl, RG', by decide, by decide, fun d G1' d0 d1 kp R1 => ?_⟩
          refine ⟨aa, bb, lo, hi_, d, rfl, kp _ _ (tG _ _ haa) (RG'.ne (tG _ _ haa)), kp _ _ (tG _ _ hbb) (RG'.ne (tG _ _ hbb)), szl, szh, by omega, by omega, fun q G2' s2 n2 pq => ?_⟩
          have new : u ∉ nums.map (·.1) := by rw [keys]; exact take_new spo.nd hu2
          have lenN : nums.length ≤ 3 := by
            have z := congrArg List.length keys
            rw [List.length_map, List.length_take, List.length_map] at z
            omega
          have hdn2 := s2 _ _ (kp _ _ hdn dnp)
          have hdp2 := s2 _ _ (kp _ _ hdp dpp)
          refine ⟨_, rfl, _, rfl, dn, _, rfl, DPut.k (k := Sum.inr u) hdn2 (by rw [nms.len, sizeLine_eq]; omega), ?_⟩
          have look : valV (putK kvn (Sum.inr u) (V.ref q)) (Sum.inr u) = some (.ref q) := (valV_put _ _ _ _).trans (if_pos rfl)
          have putn : putK kvn (Sum.inr u) (V.ref q) = kvn ++ [(Sum.inr u, V.ref q)] := putK_new (by rw [nms.keys]; intro z; obtain ⟨x, hx, e⟩ := List.mem_map.mp z; exact new (Sum.inr.inj e ▸ hx))
          have hdn3' : upd G2' dn (.dK (putK kvn (Sum.inr u) (.ref q))) dn = some (.dK (putK kvn (Sum.inr u) (.ref q))) := upd_same
          have hdp3' : upd G2' dn (.dK (putK kvn (Sum.inr u) (.ref q))) dp = some (.dK kvp) := (upd_ne npn).trans hdp2
          have R3' : Rng (upd G2' dn (.dK (putK kvn (Sum.inr u) (.ref q)))) p := rng_upd (R1.same' s2) dnp
          have pq3 : PartAt (upd G2' dn (.dK (putK kvn (Sum.inr u) (.ref q)))) q (betw lo hi_ d) := (upd_ne (fun z => by rw [z] at pq; unfold PartAt at pq; rw [hdn2] at pq; cases pq)).trans pq
          have k3 : ∀ b o, b ≠ p → b ≠ dn → G0 b = some o → upd G2' dn (.dK (putK kvn (Sum.inr u) (.ref q))) b = some o := fun b o n1 n2 e => (upd_ne n2).trans (s2 _ _ (kp _ _ e n1))
          generalize upd G2' dn (.dK (putK kvn (Sum.inr u) (.ref q))) = G3' at hdn3' hdp3' R3' pq3 k3 ⊢
          refine ⟨_, rfl, _, rfl, _, rfl, dn, .ref q, rfl, .inl ⟨_, .inr u, .of hdn3', rfl, look.symm⟩, p, q, _, rfl, R3', pq3, sz1000 (betw_sz szl szh (by omega) (by omega)) (by decide), fun y G4 s4 R4 ny => ?_⟩
          have hdp4 := s4 _ _ (by rw [off_ne dpp]; exact hdp3')
          have hdn4 := s4 _ _ (by rw [off_ne dnp]; exact hdn3')
          refine ⟨_, rfl, _, rfl, dp, _, rfl, DPut.k (k := Sum.inr u) hdp4 (by rw [gvs.len, List.length_cons, sizeLine_eq]; omega), ?_⟩
          have nmore : u ≠ "more" := fun z => more_new (z ▸ spo.mem u umem)
          have putp : putK kvp (Sum.inr u) y = kvp ++ [(Sum.inr u, y)] := putK_new (by
            rw [gvs.keys]
            intro z
            obtain ⟨x, hx, e⟩ := List.mem_map.mp z
            rw [List.map_cons] at hx
            rcases List.mem_cons.mp hx with rfl | hx
            · exact nmore (Sum.inr.inj e).symm
            · exact new (Sum.inr.inj e ▸ hx))
          rw [putp]
          rw [putn] at hdn4
          have k5 : ∀ b o, b ≠ p → b ≠ dn → b ≠ dp → G0 b = some o → upd G4 dp (.dK (kvp ++ [(Sum.inr u, y)])) b = some o := fun b o n1 n2 n3 e => (upd_ne n3).trans (s4 _ _ (by rw [off_ne n1]; exact k3 b o n1 n2 e))
          have kT : ∀ b xs, G0 b = some (.tup xs) → upd G4 dp (.dK (kvp ++ [(Sum.inr u, y)])) b = some (.tup xs) := fun b xs e => k5 b _ (RG'.ne e) (fun z => by rw [z, hdn] at e; cases e) (fun z => by rw [z, hdp] at e; cases e) e
          have kI : ∀ b C dx fs, G0 b = some (.ins C dx fs) → upd G4 dp (.dK (kvp ++ [(Sum.inr u, y)])) b = some (.ins C dx fs) := fun b C dx fs e => k5 b _ (RG'.ne_ins e) (fun z => by rw [z, hdn] at e; cases e) (fun z => by rw [z, hdp] at e; cases e) e
          have pq5 : PartAt (upd G4 dp (.dK (kvp ++ [(Sum.inr u, y)]))) q (betw lo hi_ d) := (upd_ne (fun z => by rw [z] at pq3; unfold PartAt at pq3; rw [hdp3'] at pq3; cases pq3)).trans (s4 _ _ (by rw [off_ne (R3'.ne pq3)]; exact pq3))
          have ny5 : NumAt K (upd G4 dp (.dK (kvp ++ [(Sum.inr u, y)]))) y (betw lo hi_ d) := ny.keep fun b C dx fs e => (upd_ne (fun z => by rw [z, hdp4] at e; cases e)).trans e
          refine ⟨fun b o e n1 n2 => k5 b o (off_some e).1 n1 n2 (s b o e n1 n2), rng_upd R4 dpp, _, _, nums ++ [(u, betw lo hi_ d)], _, rfl, (upd_ne npn.symm).trans hdn4, upd_same, ?_, ?_, ?_, ?_⟩
          · exact (nms.imp fun v x ⟨c, e, h⟩ => ⟨c, e, kT _ _ h⟩).snoc ⟨q, rfl, pq5⟩
          · exact (gvs.imp fun v x h => h.keep kI).snoc ny5
          · rw [List.map_append, keys, List.take_succ, hu2]
            rfl
          · intro x hx
            rcases List.mem_append.mp hx with h | h
            · exact sz x h
            · rw [List.mem_singleton.mp h]
              exact betw_sz szl szh (by omega) (by omega)
        · rintro z G' ⟨s, RG', kvn, kvp, nums, w8, rfl, hdn, hdp, nms, gvs, keys, sz⟩
          have frzG := s _ _ nOL Dsdn Dsdp
          have R' : Rng (upd G' Ds (.dK kvs)) p := rng_upd RG' Dsp
          refine ⟨frzG, fun b o e => ?_, R', kvn, kvp, nums, w8, rfl, ?_, ?_, ?_, ?_, ?_, sz⟩
          · have eG := sG b o e
            obtain ⟨n, e⟩ := off_some e
            by_cases c : b = Ds
            · subst c
              rw [upd_same, ← e, toH _ _ row.ds]
            · rw [upd_ne c]
              exact s b o (by rw [off_ne n, eL, upd_ne c]; exact s3 b o (by rw [off_ne n]; exact e)) (ne_of_none eG ndn) (ne_of_none (A1.s _ _ (by rw [off_ne n]; exact eG)) ndp)
          · exact Zp.mk ((upd_ne Dsdn.symm).trans hdn) dnp (fun _ z => by cases z)
          · exact Zp.mk ((upd_ne Dsdp.symm).trans hdp) dpp (fun _ z => by cases z)
          · exact nms.imp fun v x ⟨c, e, h⟩ => ⟨c, e, R'.zp_tup ((upd_ne (fun z => by unfold PartAt at h; rw [z, frzG] at h; cases h)).trans h)⟩
          · exact gvs.imp fun v x h => (h.keep fun b C dx fs e => (upd_ne (fun z => by rw [z, frzG] at e; cases e)).trans e).zp R'
          · rw [keys, sl]
            exact List.take_of_length_le (by rw [List.length_map]; exact Nat.le_refl _)
      · rintro z G' ⟨sG', RG', kvn, kvp, nums, w8, rfl, hdn, hdp, nms, gvs, keys, sz⟩
        have zz := Zp.offs sG'
        have rowG := row.same zz
        have ruleG := rule.same zz
        have hlc : G' lc = some (.lst xs) := Zp.to p G' _ _ rowG.lc
        obtain ⟨lv, elv⟩ : ∃ lv : Str → Option Rat, lv = fun u => ((("more" : Str), (3 : Rat)) :: nums).lookup u := ⟨_, rfl⟩
        have szp : ∀ x ∈ (("more" : Str), (3 : Rat)) :: nums, Sz 100000 x.2 := fun x hx => by
          rcases List.mem_cons.mp hx with rfl | hx
          · exact Sz.mono (n := 30) ⟨by decide +kernel, by decide +kernel⟩ (by decide)
          · exact (sz x hx).mono (by decide)
        have nmore : ∀ r ∈ rows, r.1 ≠ "more" := fun r hr z => more_new (z ▸ spo.mem _ (row.cok r hr).nm)
        have num : ∀ r ∈ rows, ∃ x cc, lv r.1 = some x ∧ valV kvn (Sum.inr r.1) = some (.ref cc) ∧ PartAt (Zp p G') cc x ∧ (r.1, x) ∈ nums := fun r hr => by
          rcases nms.look r.1 with ⟨e, _⟩ | ⟨x, v, e1, e2, ⟨cc, ec, hp⟩, hm⟩
          · exfalso
            have z := (row.cok r hr).nm
            rw [← keys] at z
            obtain ⟨y, hy, ey⟩ := List.mem_map.mp z
            rw [List.lookup_eq_none_iff] at e
            have q := e y hy
            rw [ey] at q
            simp at q
          · exact ⟨x, cc, by rw [elv]; exact (lookup_ne (nmore r hr)).trans e1, ec ▸ e2, hp, hm⟩
        refine ⟨_, rfl, lc, rfl, ⟨xs, SqL.of hlc⟩, fun D hD => ?_⟩
        have u2 := same_new (o := .lst []) hD
        refine lc_list (K := K) (a := lc) (xs := xs) (fun j F' => Same G' F' ∧ F' D = some (.lst (((rows.map fun r => trB lv r).take j).map V.bl))) ⟨u2, upd_same⟩ (fun j F' _ ⟨s, _⟩ => SqL.of (s _ _ hlc)) ?_ ?_
        · rintro j y F' hj ⟨s2, hG⟩
          obtain ⟨r, hr, cl⟩ := rowG.cls.at hj
          have hrm := List.mem_of_getElem? hr
          obtain ⟨x, cc, e1, e2, hp, hm⟩ := num r hrm
          have toF := (Zp.to p G').trans s2
          have ht : trB lv r = holdB r x := by unfold trB; rw [e1]
          refine ⟨rfl, _, rfl, _, rfl, y, dn, kvn, r, cc, x, rfl, cl.keep (fun b xs e => toF _ _ e), (row.cok r hrm).sd, sz1000 (row.cok r hrm).sz (by decide), toF _ _ hdn, e2, toF _ _ hp, sz1000 (sz _ hm) (by decide), fun F3 s3 => ⟨_, s3 _ _ hG, ?_, fun b o e => ?_, ?_⟩⟩
          · have l2 := row.l2
            rw [List.length_map, List.length_take, List.length_map, sizeLine_eq]
            omega
          · rw [upd_ne (ne_of_none e hD)]
            exact s3 _ _ (s2 _ _ e)
          · rw [upd_same, List.take_add_one, List.getElem?_map, hr, List.map_append, ← ht]
            rfl
        · rintro F1 ⟨s1, hG⟩
          have lx : xs.length = rows.length := row.cls.len
          rw [lx, ← List.length_map (f := fun r => trB lv r), List.take_length] at hG
          refine ⟨D, _, rfl, SqL.of hG, ?_⟩
          rw [List.all_map]
          obtain ⟨due, edue⟩ : ∃ due, due = rows.all (trB lv) := ⟨_, rfl⟩
          have edue' : (rows.all (id ∘ fun r => trB lv r)) = due := edue.symm
          rw [edue']
          have toF := (Zp.to p G').trans s1
          have l2 := row.l2
          refine ⟨_, rfl, _, rfl, s0, dp, g', a', rows, ms', lv, rfl, ruleG.same toF, ?_, by omega, fun r hr => (row.cok r hr).sz.mono (by decide), .inl ⟨fun r hr => ?_, fun l F2 s2 n2 e2 => ?_⟩⟩
          · rw [elv]
            exact GvsAt.lev (toF _ _ hdp) (gvs.imp fun v x h => h.same toF) szp
          · obtain ⟨x, cc, e1, _⟩ := num r hr
            rw [e1]
            exact fun z => by cases z
          refine .inr (.inr ⟨l, "told", _, rfl, e2, by decide +kernel, fun F3 s3 => ?_⟩)
          refine ⟨_, rfl, (by show 2 ≤ sizeLine; decide), fun l4 n4 => ?_⟩
          refine .inr (.inr ⟨l4, "told", due, rfl, upd_same, by decide +kernel, fun F5 s5 => ?_⟩)
          have u4 := same_new (o := .lst [V.str "told", .bl due]) n4
          refine ⟨rfl, _, rfl, ?_⟩
          rw [← edue]
          have e0 : ∀ y : Str, (!decide (V.str y = V.str y)) = false := fun y => by simp
          rw [e0]
          refine iteF ?_
          have s15 : Same G' F5 := fun b o e => s5 _ _ (u4 _ _ (s3 _ _ (s2 _ _ (s1 _ _ e))))
          have A5 := (At.nil RG').same s15
          refine ⟨_, rfl, (by show 3 ≤ sizeLine; decide), fun l6 n6 => ?_⟩
          have A6 := A5.new (o := .lst (names3.map V.str)) n6 (fun _ z => by cases z)
          refine ⟨p, l6, _, rfl, A6.r, upd_same, A5.r.ne_new' n6, by show 0 < 3; decide, by show 3 < 1000; decide, fun v F7 mv kp7 R7 => ?_⟩
          obtain ⟨nm, hnm, rfl⟩ : ∃ nm, nm ∈ names3 ∧ V.str nm = v := List.mem_map.mp (show v ∈ names3.map V.str from mv)
          have A7 := (A6.kp kp7 R7).bare
          have z7 := Zp.offs A7.s
          have hdp7 : F7 dp = some (.dK kvp) := Zp.to p F7 _ _ (z7 _ _ hdp)
          have gvs7 : GvsAt K (Zp p F7) kvp (("more", 3) :: nums) := gvs.imp fun v x h => h.same z7
          have ndk : (kvp.map (·.1)).Nodup := by
            rw [gvs.keys, List.map_cons, keys]
            refine List.Pairwise.map _ (fun a b h z => h (Sum.inr.inj z)) (List.nodup_cons.mpr ⟨fun z => more_new (spo.mem _ z), spo.nd⟩)
          obtain ⟨kf, ekf⟩ : ∃ kf : Key → Bool, kf = fun k => decide (k ≠ Sum.inr nm) := ⟨_, rfl⟩
          refine ⟨dp, _, hdp7, trivial, fun od => ?_⟩
          refine ⟨_, rfl, dp, od, rfl, .inl ⟨kvp, upd_same, fun D8 hD8 => ?_⟩⟩
          have Dd : D8 ≠ dp := fun z => by rw [z, upd_same] at hD8; cases hD8
          have hD7 : F7 D8 = none := by rw [upd_ne Dd] at hD8; exact hD8
          refine lc_it walk_keys (fun j G8 => (∀ b o, F7 b = some o → b ≠ dp → G8 b = some o) ∧ G8 dp = some (.frz od (.dK kvp)) ∧ ∃ ps, G8 D8 = some (.lst (ps.map V.ref)) ∧ Paired (fun q (kv : Key × V) => G8 q = some (.tup [kV kv.1, kv.2])) ps ((kvp.take j).filter fun kv => kf kv.1)) ⟨fun b o e n => ?_, ?_, [], upd_same, .nil⟩ (fun _ _ _ h => h.2.1) ?_ ?_
          · rw [upd_ne (ne_of_none e hD7), upd_ne n]
            exact e
          · rw [upd_ne Dd.symm]
            exact upd_same
          · rintro j y G8 G9 hj ⟨s8, d8, ps, hps, pr⟩ ⟨rfl, key, v, hk, rfl⟩
            obtain ⟨n, x, rfl, hx, hv⟩ := gvs.at hk
            refine ⟨rfl, _, rfl, _, rfl, rfl, _, rfl, ?_⟩
            have tk : kvp.take (j + 1) = kvp.take j ++ [(Sum.inr n, v)] := by rw [List.take_add_one, hk]; rfl
            by_cases c : n = nm
            · have e1 : (!decide (V.str n = V.str nm)) = false := by simp [c]
              rw [show (!decide (kV (Sum.inr n) = V.str nm)) = false from e1]
              refine iteF ?_
              refine ⟨s8, d8, ps, hps, ?_⟩
              rw [tk, List.filter_append]
              have e2 : kf (Sum.inr n) = false := by rw [ekf]; simp [c]
              simp [e2]
              exact pr
            · have e1 : (!decide (V.str n = V.str nm)) = true := by simp [c]
              rw [show (!decide (kV (Sum.inr n) = V.str nm)) = true from e1]
              refine iteT ?_
              refine ⟨_, rfl, _, rfl, _, rfl, dp, v, rfl, .inl ⟨kvp, .inr n, .inr ⟨od, d8⟩, rfl, (valV_at ndk hk).symm⟩, (by show 2 ≤ sizeLine; decide), fun t9 n9 => ?_⟩
              have u9 := same_new (o := .tup [kV (Sum.inr n), v]) n9
              have e2 : kf (Sum.inr n) = true := by rw [ekf]; simp [c]
              have np : ∀ q xs, G9 q = some (.tup xs) → q ≠ D8 := fun q xs e z => by rw [z, hps] at e; cases e
              refine ⟨_, u9 _ _ hps, ?_, fun b o e n' => ?_, ?_, ps ++ [t9], ?_, ?_⟩
              · have z1 := pr.length
                have z2 := List.length_filter_le (fun kv : Key × V => kf kv.1) (kvp.take j)
                have z3 : (kvp.take j).length ≤ kvp.length := by rw [List.length_take]; omega
                have z4 := gvs.len
                have z5 := congrArg List.length keys
                rw [List.length_map, List.length_map] at z5
                rw [List.length_cons] at z4
                rw [List.length_map, sizeLine_eq]
                omega
              · rw [upd_ne (ne_of_none e hD7)]
                exact u9 _ _ (s8 b o e n')
              · rw [upd_ne Dd.symm]
                exact u9 _ _ d8
              · rw [upd_same, List.map_append]
                rfl
              · rw [tk, List.filter_append]
                have e3 : ([((Sum.inr n : Key), v)].filter fun kv => kf kv.1) = [((Sum.inr n : Key), v)] := by simp [e2]
                rw [e3]
                refine (pr.mono fun q kv e => ?_).snoc ?_
                · rw [upd_ne (np _ _ e)]
                  exact u9 _ _ e
                · rw [upd_ne (ne_of_none hps n9).symm]
                  exact upd_same
          · rintro G8 ⟨s8, d8, ps, hps, pr⟩
            rw [List.take_length] at pr
            have ndf : ((kvp.filter fun kv => kf kv.1).map (·.1)).Nodup := List.Nodup.sublist (List.Sublist.map _ List.filter_sublist) ndk
            refine ⟨D8, ps, _, rfl, SqL.of hps, pr.mono (fun q kv e => SqT.of e), fun q nq => ?_⟩
            have me : mergeK [] (kvp.filter fun kv => kf kv.1) = kvp.filter fun kv => kf kv.1 := mergeK_new _ [] ndf
            rw [me]
            have gvf : GvsAt K (Zp p F7) (kvp.filter fun kv => kf kv.1) (((("more" : Str), (3 : Rat)) :: nums).filter fun x => kf (Sum.inr x.1)) := KvR.filter gvs7
            generalize (kvp.filter fun kv => kf kv.1) = kvf at gvf ⊢
            have qdp : q ≠ dp := fun z => by rw [z, d8] at nq; cases nq
            have s10 : Same F7 (upd (upd G8 q (.dK kvf)) dp (.dK kvp)) := fun b o e => by
              by_cases c : b = dp
              · rw [c] at e ⊢
                rw [upd_same, ← e, hdp7]
              · have z := s8 b o e c
                rw [upd_ne c, upd_ne (ne_of_none z nq)]
                exact z
            refine ⟨(upd_ne qdp.symm).trans d8, ?_⟩
            have hq10 : upd (upd G8 q (.dK kvf)) dp (.dK kvp) q = some (.dK kvf) := (upd_ne qdp).trans upd_same
            generalize upd (upd G8 q (.dK kvf)) dp (.dK kvp) = F10 at s10 hq10 ⊢
            have A10 := A7.same s10
            have z10 := (Zp.offs A10.s)
            have to10 := z10.trans (Zp.to p F10)
            have gv10 := gvf.imp fun v x h => h.same ((Zp.to p F7).trans s10)
            refine ⟨_, rfl, _, rfl, lc, rfl, ⟨xs, SqL.of (to10 _ _ rowG.lc)⟩, fun D11 hD11 => ?_⟩
            have u11 := same_new (o := .lst []) hD11
            refine lc_list (K := K) (a := lc) (xs := xs) (fun j F' => Same F10 F' ∧ F' D11 = some (.lst ((rows.map fun r => V.str r.1).take j))) ⟨u11, upd_same⟩ (fun j F' _ ⟨s, _⟩ => SqL.of (s _ _ (to10 _ _ rowG.lc))) ?_ ?_
            · rintro j y F' hj ⟨s2, hG⟩
              obtain ⟨r, hr, ca, qa, rfl, hca, _⟩ := rowG.cls.at hj
              refine ⟨rfl, _, rfl, ca, _, _, _, rfl, rfl, SqT.of (s2 _ _ (to10 _ _ hca)), rfl, _, hG, ?_, fun b o e => ?_, ?_⟩
              · rw [List.length_take, List.length_map, sizeLine_eq]
                omega
              · rw [upd_ne (ne_of_none e hD11)]
                exact s2 _ _ e
              · rw [upd_same, List.take_add_one, List.getElem?_map, hr]
                rfl
            · rintro F12 ⟨s12, hG12⟩
              rw [lx, ← List.length_map (f := fun r : Row => V.str r.1), List.take_length] at hG12
              refine ⟨D11, _, rfl, .inl (SqL.of hG12), rfl, by rw [List.all_map]; exact List.all_eq_true.mpr fun _ _ => rfl, ?_⟩
              have A12 := A10.same s12
              have to12 := to10.trans s12
              have fin : ∀ F, Same F12 F → Same (off H p) F ∧ Rng F p := fun F s => ⟨fun b o e => s _ _ (A12.s b o (by rw [off_ne (off_some e).1]; exact sG' b o e)), A12.r.same' s⟩
              have inb : (if false = true then !inV (V.str nm) (rows.map fun r : Row => V.str r.1) else inV (V.str nm) (rows.map fun r : Row => V.str r.1)) = inV (V.str nm) (rows.map fun r : Row => V.str r.1) := rfl
              rw [inb]
              obtain ⟨b, eb⟩ : ∃ b, b = inV (V.str nm) (rows.map fun r : Row => V.str r.1) := ⟨_, rfl⟩
              rw [← eb]
              cases b with
              | false => exact ⟨_, rfl, false, rfl, iteF (iteF ⟨(fin F12 fun _ _ e => e).1, (fin F12 fun _ _ e => e).2, _, _, _, _, _, _, _, _, rfl⟩)⟩
              | true =>
                have ex : ∃ r ∈ rows, r.1 = nm := by
                  unfold inV at eb
                  obtain ⟨y, hy, e⟩ := List.any_eq_true.mp eb.symm
                  obtain ⟨r, hr, rfl⟩ := List.mem_map.mp hy
                  exact ⟨r, hr, by simpa [eqV] using e⟩
                obtain ⟨j1, r1, hj1, er1, bef⟩ := first_at ex
                refine ⟨_, rfl, true, rfl, iteT ?_⟩
                refine ⟨_, rfl, _, rfl, s0, q, g', a', rows, ms', _, rfl, ruleG.same to12, GvsAt.lev (s12 _ _ hq10) (gv10.imp fun v x h => h.same s12) (fun x hx => szp x ((List.mem_filter.mp hx).1)), by omega, fun r hr => (row.cok r hr).sz.mono (by decide), .inr ⟨j1, r1, hj1, ?_, fun i' u hi' hu' => ?_, fun l13 F13 s13 n13 e13 => ?_⟩⟩
                · rw [List.lookup_eq_none_iff]
                  intro y hy
                  have z := (List.mem_filter.mp hy).2
                  rw [ekf] at z
                  rw [er1]
                  have z2 : y.1 ≠ nm := fun c => by simp [c] at z
                  simpa using Ne.symm z2
                · have hum := List.mem_of_getElem? hu'
                  obtain ⟨x, cc, e1, _, _, hm⟩ := num u hum
                  intro no
                  rw [List.lookup_eq_none_iff] at no
                  have z := no (u.1, x) (List.mem_filter.mpr ⟨List.mem_cons_of_mem _ hm, by rw [ekf]; simpa using bef i' u hi' hu'⟩)
                  simp at z
                · refine ⟨_, rfl, (by show 4 ≤ sizeLine; decide), fun l14 n14 => ?_⟩
                  have u14 := same_new (o := .lst [V.str "level", .str nm, .bl true, .bl true]) n14
                  rw [er1] at e13
                  refine ⟨true, lstSelf (u14 _ _ e13) upd_same (fun v hv => ?_), fun F15 s15' => ⟨_, rfl, iteF ?_⟩⟩
                  · simp only [List.mem_cons, List.not_mem_nil, or_false] at hv
                    rcases hv with rfl | rfl | rfl | rfl <;> rfl
                  · have ff := fin F15 ((s13.trans u14).trans s15')
                    exact ⟨ff.1, ff.2, _, _, _, _, _, _, _, _, rfl⟩
    · rintro z G ⟨sG, RG, v5, v6, v7, v8, v9, v10, v11, v12, rfl⟩
      have zz := Zp.offs sG
      have rowG := row.same zz
      have ruleG := rule.same zz
      have hlc : G lc = some (.lst xs) := Zp.to p G _ _ rowG.lc
      have l2 := row.l2
      have lx : xs.length = rows.length := row.cls.len
      have sh := rows_shaped (rows := rows) fun r hr => ⟨names_ok _ (row.sok.mem _ (row.cok r hr).nm), side_ok (row.cok r hr).sd⟩
      refine ⟨_, rfl, (by show 0 ≤ sizeLine; decide), fun l1 n1 => ?_⟩
      have A1 := (At.nil RG).new (o := .lst []) n1 (fun _ z => by cases z)
      have hlc1 := (same_new (o := .lst []) n1) _ _ hlc
      generalize upd G l1 (.lst []) = G1 at A1 hlc1 ⊢
      have z1 := (Zp.offs A1.s).trans (Zp.to p G1)
      refine ⟨.list (rows.map dRow), .list [], .lst (SqL.of hlc1) (cls_dp (rowG.cls.keep fun b xs e => z1 _ _ e)), .lst (SqL.of (A1.at (i := 0) rfl)) .nil, sh, by decide +kernel, _, rfl, ?_⟩
      have fin : ∀ F, Same G1 F → Q (.bl true) F := fun F s => k F (fun b o e => s _ _ (A1.s b o (by rw [off_ne (off_some e).1]; exact sG b o e))) (A1.r.same' s)
      cases rows with
      | nil =>
        have e0 : PyData.eqv (.list (([] : List Row).map dRow)) (.list []) = true := by simp [PyData.eqv, PyData.eqvAll]
        rw [e0]
        refine iteT ?_
        obtain ⟨kvR, ⟨dx, tw, md, es, rr⟩, mm⟩ := id ruleG
        refine ⟨_, rfl, s0, dx, _, rfl, z1 _ _ es, rfl, fun d nd => ?_⟩
        have u2 := same_new (o := .dK []) nd
        refine ⟨s0, d, g', a', [], ms', fun _ => none, rfl, (ruleG.same z1).same u2, ⟨[], upd_same, fun u => .inl ⟨rfl, valV_nil⟩⟩, by simp, (fun r h => by cases h), .inl ⟨(fun r h => by cases h), fun H' s' => ?_⟩⟩
        exact ⟨true, true, rfl, rfl, fin _ (u2.trans s')⟩
      | cons r rows =>
        have e0 : PyData.eqv (.list ((r :: rows).map dRow)) (.list []) = false := by simp [PyData.eqv, PyData.eqvAll]
        rw [e0]
        refine iteF ?_
        cases xs with
        | nil => cases lx
        | cons v xs =>
        obtain ⟨⟨cc, qc, ev, hcc, _⟩, _⟩ := rowG.cls
        subst ev
        refine ⟨_, rfl, fun d nd => ?_⟩
        have u2 := same_new (o := .dK []) nd
        refine ⟨s0, d, g', a', _, ms', fun _ => none, rfl, (ruleG.same z1).same u2, ⟨[], upd_same, fun u => .inl ⟨rfl, valV_nil⟩⟩, by omega, (fun r h => (row.cok r h).sz.mono (by decide)), .inr ⟨0, r, rfl, rfl, (fun i u h => absurd h (Nat.not_lt_zero _)), fun l3 F3 s3 n3 e3 => ?_⟩⟩
        have s13 := u2.trans s3
        refine ⟨_, rfl, lc, _, _, _, rfl, rfl, SqL.of (s13 _ _ hlc1), atI_nat (j := 0) rfl, cc, _, _, _, rfl, rfl, SqT.of (s13 _ _ (z1 _ _ hcc)), rfl, (by show 4 ≤ sizeLine; decide), fun l4 n4 => ?_⟩
        have u4 := same_new (o := .lst [V.str "level", .str r.1, .bl true, .bl true]) n4
        refine ⟨true, lstSelf (u4 _ _ e3) upd_same (fun v hv => ?_), fun F5 s5 => fin F5 ((s13.trans u4).trans s5)⟩
        simp only [List.mem_cons, List.not_mem_nil, or_false] at hv
        rcases hv with rfl | rfl | rfl | rfl <;> rfl
end
end K18
set_option maxHeartbeats 4000000
namespace K18
open PySem PySem.Spec PyProof.Rows L2 GL StX
section
variable {P : Program} {w : World} {K : PySem.W.Frag} {mg : Str → Option Value} {base : Heap}
/-- nothing goes out -/
theorem FnK.ground {k : Nat} {f : Addr} {a : Str} {sp : SpK} (F : FnK P w K mg base (L2.CX P w) k f a sp) : FnK P w K mg base CX0 k f a (fun v ks vs H Q _ => sp v ks vs H Q E0) :=
  fun A outer s H u v ks us vs Q E hr e0 ru rv lv nd na small hs => codeAny_mono (F A outer s H u v ks us vs Q E0 hr e0 ru rv lv nd na small hs) fun r s' h => match r, h with
    | .error e, h => by
      obtain ⟨_, _, _, _, _, _, _, _, _, _, _, _, z⟩ := h
      exact z.elim
    | .ok (.ret _), h => h
    | .ok .next, h => False.elim h
    | .ok .brk, h => False.elim h
    | .ok .cont, h => False.elim h
theorem kit_tuple : PySem.W.kitAny K (.type "tuple") [.type "list", .type "tuple"] = some true := by
  have a : PySem.W.kitOne K (.type "tuple") (.type "list") = some false := kit_ty (by decide +kernel)
  have b : PySem.W.kitOne K (.type "tuple") (.type "tuple") = some true := kit_ty (by decide +kernel)
  simp [PySem.W.kitAny, a, b]
theorem kit_list : PySem.W.kitAny K (.type "list") [.type "list", .type "tuple"] = some true := by
  have a : PySem.W.kitOne K (.type "list") (.type "list") = some true := kit_ty (by decide +kernel)
  simp [PySem.W.kitAny, a]
theorem RowsL.conds {H : Hp} {ys : List V} {rows : List Row} (h : RowsL K H ys rows) : CondsAt K H ys rows := ⟨h.1, fun i v r e1 e2 => by
  obtain ⟨c, p, ev, hc, hp⟩ := h.2 i v r e1 e2
  exact ⟨c, .ref p, ev, hc, .inr ⟨p, rfl, hp⟩⟩⟩
/-- a rule is made of conditions that a rule has -/
theorem rule_rows {H : Hp} {x dx aw : Addr} {g a : Str} {rows : List Row} {mv : V} {ms : List (Str × Mvd)} {Q : VK} {E : XK} (TM : MF K mg) (hx : H x = none) (hd : H dx = none) (ng : NameS g) (na : NameS a) (rt : RowsAt K H aw rows) (ok : RowsOk rows) (l8 : rows.length ≤ 8) (mvs : MovesGiven K H mv ms)
    (k : ∀ H' ms', Same H H' → SortM ms ms' → RuleM K H' x g a rows ms' → Q .non H') : spRuleI K [.ref x, .str g, .str a, .ref aw, mv] (upd (upd H dx (.own x)) x (.ins (aRu K) dx [])) Q E := by
  obtain ⟨ys, e, r⟩ := rt
  exact rule_full TM hx hd ng na (.base (.tup e)) kit_tuple (.inr (SqT.of e)) r.conds ok (by rw [r.1]; exact l8) mvs k
theorem ruleEq_yes {g a : Str} {rows : List Row} {ms ns : List (Str × Mvd)} (nd : (ns.map (·.1)).Nodup) (p : ms.Perm ns) : ruleEq g a rows ms g a rows ns = true := by
  unfold ruleEq
  rw [decide_eq_true rfl, decide_eq_true rfl, decide_eq_true rfl, mvEq_perm nd p]
  rfl
theorem ruleEq_g {g g' a a' : Str} {rows rows' : List Row} {ms ns : List (Str × Mvd)} (h : g ≠ g') : ruleEq g a rows ms g' a' rows' ns = false := by
  unfold ruleEq
  rw [decide_eq_false h, Bool.false_and]
theorem ruleEq_a {g g' a a' : Str} {rows rows' : List Row} {ms ns : List (Str × Mvd)} (h : a ≠ a') : ruleEq g a rows ms g' a' rows' ns = false := by
  unfold ruleEq
  rw [decide_eq_false h, Bool.false_and, Bool.and_false]
theorem ruleEq_w {g g' a a' : Str} {rows rows' : List Row} {ms ns : List (Str × Mvd)} (h : rows ≠ rows') : ruleEq g a rows ms g' a' rows' ns = false := by
  unfold ruleEq
  rw [decide_eq_false h, Bool.false_and, Bool.and_false, Bool.and_false]
theorem ruleEq_m {g g' a a' : Str} {rows rows' : List Row} {ms ns : List (Str × Mvd)} (h : mvEq ms ns = false) : ruleEq g a rows ms g' a' rows' ns = false := by
  unfold ruleEq
  rw [h, Bool.and_false, Bool.and_false, Bool.and_false]
/-- the moves that a rule has, given again -/
theorem RuleM.given {H : Hp} {s : Addr} {g a : Str} {rows : List Row} {ms : List (Str × Mvd)} (h : RuleM K H s g a rows ms) (l : ms.length < 64) (nd : (ms.map (·.1)).Nodup) (nm : ∀ n ∈ ms.map (·.1), NameS n) :
    ∃ dx tw md, H s = some (.ins (aRu K) dx [("_goal", .str g), ("_answer", .str a), ("_when", .ref tw), ("_moves", .ref md)]) ∧ RowsAt K H tw rows ∧ MovesGiven K H (.ref md) ms := by
  obtain ⟨kvs, ⟨dx, tw, md, es, r, hm⟩, mm⟩ := h
  exact ⟨dx, tw, md, es, r, .inr ⟨md, kvs, rfl, hm, mm, l, nd, nm⟩⟩
/-- conditions, given in a list or a tuple -/
def WhenAt (K : PySem.W.Frag) (H : Hp) (aw : Addr) (rows : List Row) : Prop := ∃ xs t, TyX K H (.ref aw) t ∧ PySem.W.kitAny K t [.type "list", .type "tuple"] = some true ∧ (SqL K H aw xs ∨ SqT K H aw xs) ∧ CondsAt K H xs rows
theorem WhenAt.same {H H' : Hp} {aw : Addr} {rows : List Row} (h : WhenAt K H aw rows) (k : Same H H') : WhenAt K H' aw rows := by
  obtain ⟨xs, t, ty, kt, sq, cs⟩ := h
  exact ⟨xs, t, TyX.same' ty k, kt, sq.imp (fun h => L2.SqL.ext h k) (fun h => L2.SqT.ext h k), cs.same k⟩
theorem WhenAt.lst {H : Hp} {l : Addr} {xs : List V} {rows : List Row} (e : H l = some (.lst xs)) (c : CondsAt K H xs rows) : WhenAt K H l rows := ⟨xs, _, .base (.lst e), kit_list, .inl (SqL.of e), c⟩
theorem RowsAt.when {H : Hp} {a : Addr} {rows : List Row} (h : RowsAt K H a rows) : WhenAt K H a rows := by
  obtain ⟨ys, e, r⟩ := h
  exact ⟨ys, _, .base (.tup e), kit_tuple, .inr (SqT.of e), r.conds⟩
theorem MovesGiven.non {H : Hp} : MovesGiven K H .non [] := .inl ⟨rfl, rfl⟩
theorem rule_when {H : Hp} {x dx aw : Addr} {g a : Str} {rows : List Row} {mv : V} {ms : List (Str × Mvd)} {Q : VK} {E : XK} (TM : MF K mg) (hx : H x = none) (hd : H dx = none) (ng : NameS g) (na : NameS a) (wh : WhenAt K H aw rows) (ok : RowsOk rows) (l8 : rows.length ≤ 8) (mvs : MovesGiven K H mv ms)
    (k : ∀ H' ms', Same H H' → SortM ms ms' → RuleM K H' x g a rows ms' → Q .non H') : spRuleI K [.ref x, .str g, .str a, .ref aw, mv] (upd (upd H dx (.own x)) x (.ins (aRu K) dx [])) Q E := by
  obtain ⟨xs, t, ty, kt, sq, cs⟩ := wh
  exact rule_full TM hx hd ng na ty kt sq cs ok (by rw [cs.1]; exact l8) mvs k
/-- a rule is changed -/
theorem chg {H : Hp} {s : Addr} {g0 a0 g a : Str} {rows0 rows : List Row} {ms0 ms : List (Str × Mvd)} {ks : List Str} {vs : List V} {Q : VK} {E : XK} (TM : MF K mg) (ru : RuleM K H s g0 a0 rows0 ms0) (l64 : ms0.length < 64) (nd : (ms0.map (·.1)).Nodup) (nm : ∀ n ∈ ms0.map (·.1), NameS n)
    (kn : ks.all known = true) (lk : ks.length < 64) (eg : pick ks vs "goal" (.str g0) = .str g) (ea : pick ks vs "answer" (.str a0) = .str a) (wh : ∀ tw, RowsAt K H tw rows0 → ∃ aw, pick ks vs "when" (.ref tw) = .ref aw ∧ WhenAt K H aw rows)
    (mv : ∀ md, MovesGiven K H (.ref md) ms0 → MovesGiven K H (pick ks vs "moves" (.ref md)) ms) (ng : NameS g) (na : NameS a) (ok : RowsOk rows) (l8 : rows.length ≤ 8)
    (k : ∀ x G m, Same H G → SortM ms m → RuleM K G x g a rows m → Q (.ref x) G) : spChanged K (.ref s) ks vs H Q E := by
  obtain ⟨dx, tw, md, es, rt, mg_⟩ := ru.given l64 nd nm
  obtain ⟨aw, ew, wa⟩ := wh tw rt
  refine ⟨s, dx, _, _, _, _, rfl, es, lk, .inr ⟨fun u hu => List.all_eq_true.mp kn u hu, fun H2 x dx' s2 hx hd ne => ?_⟩⟩
  rw [eg, ea, ew]
  exact rule_when TM hx hd ng na (wa.same s2) ok l8 ((mv md mg_).same s2) fun H' ms' s3 so r => ⟨rfl, k x H' ms' (s2.trans s3) so r⟩
/-! ### two rules compared -/
theorem own_eq {H : Hp} {x y : Addr} {g1 a1 g2 a2 : Str} {rows1 rows2 : List Row} {ms1 ms2 : List (Str × Mvd)} {Q : VK} {E : XK} (Z : UE P w K mg base) (h1 : RuleM K H x g1 a1 rows1 ms1) (h2 : RuleM K H y g2 a2 rows2 ms2) (k : ∀ H', Same H H' → Q (.bl (ruleEq g1 a1 rows1 ms1 g2 a2 rows2 ms2)) H') :
    rOwnE K (aRu K) (spRuleEqM K) E (.ref x) (.ref y) H Q := by
  obtain ⟨kvs, ⟨dx, tw, md, es, _⟩, _⟩ := id h1
  obtain ⟨kv2, r2, _⟩ := id h2
  exact ⟨x, dx, _, _, rfl, es, RuleAt.ty Z r2, (by unfold PySem.W.notFirst; rw [beq_self_eq_true, Bool.true_or]), x, .ref y, g1, a1, rows1, ms1, rfl, h1, .inr ⟨y, g2, a2, rows2, ms2, rfl, h2, k⟩⟩
theorem own_ne {H : Hp} {x y : Addr} {g1 a1 g2 a2 : Str} {rows1 rows2 : List Row} {ms1 ms2 : List (Str × Mvd)} {Q : VK} {E : XK} (Z : UE P w K mg base) (h1 : RuleM K H x g1 a1 rows1 ms1) (h2 : RuleM K H y g2 a2 rows2 ms2) (k : ∀ H', Same H H' → Q (.bl (!ruleEq g1 a1 rows1 ms1 g2 a2 rows2 ms2)) H') :
    rOwnN K (aRu K) (spRuleEqM K) E (.ref x) (.ref y) H Q := by
  obtain ⟨kvs, ⟨dx, tw, md, es, _⟩, _⟩ := id h1
  obtain ⟨kv2, r2, _⟩ := id h2
  exact ⟨x, dx, _, _, rfl, es, RuleAt.ty Z r2, (by unfold PySem.W.notFirst; rw [beq_self_eq_true, Bool.true_or]), x, .ref y, g1, a1, rows1, ms1, rfl, h1, .inr ⟨y, g2, a2, rows2, ms2, rfl, h2, fun H' s' => ⟨_, rfl, k H' s'⟩⟩⟩
end
theorem names_nm : ∀ n ∈ names3, NameS n := by
  have h : (names3.all fun n => nameD n) = true := by decide +kernel
  exact fun n hn => NameS.of (List.all_eq_true.mp h n hn)
end K18
set_option maxHeartbeats 8000000
namespace K18
open PySem PySem.Spec PyProof.Rows L2 GL StX
abbrev sChR : Stmt := tp 64
section
variable {P : Program} {w : World} {K : PySem.W.Frag} {mg : Str → Option Value} {base : Heap}
/-- Rule is made, changed, compared -/
structure MkU (P : Program) (w : World) (K : PySem.W.Frag) (mg : Str → Option Value) (base : Heap) : Prop where
  U : UE P w K mg base
  M : MkM P w K mg base
  G : RG P w K mg base
  ch : ∃ f, Meth K (aRu K) "changed" f ∧ FnK P w K mg base (L2.CX P w) 7 f "self" (spChanged K)
  mU : ∃ f fd gU, Mk K (aRu K) f ∧ FnOk P w K mg base (L2.CX P w) 5 f fd psRule (spRuleI K) ∧ KBn K fd psRule 3 ["when", "moves"] gU (fun vs zs => vs ++ zs)
  mU1 : ∃ f fd gU, Mk K (aRu K) f ∧ FnOk P w K mg base (L2.CX P w) 5 f fd psRule (spRuleI K) ∧ KBn K fd psRule 3 ["when"] gU (fun vs zs => vs ++ (zs ++ [.non]))
  eq : ∃ f, OwnEq K (aRu K) f ∧ FnR P w K mg base CX0 5 f (spRuleEqM K)
  nt : PySem.W.kitOne K (.type "tuple") (.ref (aRu K)) = some false
  nft : PySem.W.notFirst K (aRu K) (.type "tuple") = true
/-- due of a rule, whose own moves lie apart from the due ones -/
structure Apart (K : PySem.W.Frag) (H : Hp) (s du t dm : Addr) (g a : Str) (rows : List Row) (ms ms' : List (Str × Mvd)) (kvd : List (Key × V)) : Prop where
  D : DueAt K H du g a rows ms t dm kvd
  ru : RuleM K (off H dm) s g a rows ms'
  so : SortM ms ms'
  ng : NameS g
  na : NameS a
  rok : RowsOk rows
  mem : ∀ n ∈ ms.map (·.1), n ∈ names3
  rmem : ∀ r ∈ rows, r.1 ∈ names3
  sz : ∀ r ∈ rows, Sz 80 r.2.2
  mok : ∀ x ∈ ms, ShOk x.2
  l3 : ms.length ≤ 3
theorem Apart.same {H H' : Hp} {s du t dm : Addr} {g a : Str} {rows : List Row} {ms ms' : List (Str × Mvd)} {kvd : List (Key × V)} (h : Apart K H s du t dm g a rows ms ms' kvd) (k : Same H H') : Apart K H' s du t dm g a rows ms ms' kvd :=
  { h with
    D := h.D.same k
    ru := h.ru.same fun b o e => (off_ne (off_some e).1).trans (k _ _ (off_some e).2) }
/-- what is no equal of a rule -/
def Tw (K : PySem.W.Frag) (G : Hp) (v : V) (g a : Str) (rows : List Row) (ms' : List (Str × Mvd)) : Prop := ∃ x g1 a1 rows1 ms1, v = .ref x ∧ RuleM K G x g1 a1 rows1 ms1 ∧ ruleEq g1 a1 rows1 ms1 g a rows ms' = false ∧ ruleEq g a rows ms' g1 a1 rows1 ms1 = false
theorem Tw.same {G G' : Hp} {v : V} {g a : Str} {rows : List Row} {ms' : List (Str × Mvd)} (h : Tw K G v g a rows ms') (k : Same G G') : Tw K G' v g a rows ms' := by
  obtain ⟨x, g1, a1, rows1, ms1, e, r, h⟩ := h
  exact ⟨x, g1, a1, rows1, ms1, e, r.same k, h⟩
theorem MvsAt.filter {H : Hp} {f : Key → Bool} : ∀ {kvs : List (Key × V)} {ms : List (Str × Mvd)}, MvsAt K H kvs ms → MvsAt K H (kvs.filter fun kv => f kv.1) (ms.filter fun x => f (Sum.inr x.1))
  | [], [], _ => trivial
  | (k, v) :: r, (n, x) :: t, ⟨e, h, tl⟩ => by
    subst e
    have ih := MvsAt.filter (f := f) tl
    rw [List.filter_cons, List.filter_cons]
    cases z : f (Sum.inr n) with
    | true => exact ⟨rfl, h, ih⟩
    | false => exact ih
  | [], _ :: _, h => h.elim
  | _ :: _, [], h => h.elim
theorem MvsAt.at {H : Hp} : ∀ {kvs : List (Key × V)} {ms : List (Str × Mvd)} {i : Nat} {k : Key} {v : V}, MvsAt K H kvs ms → kvs[i]? = some (k, v) → ∃ n x, k = Sum.inr n ∧ ms[i]? = some (n, x)
  | [], [], _, _, _, _, e => by cases e
  | (_, _) :: _, (_, _) :: _, 0, _, _, ⟨e, _, _⟩, z => by
    cases z
    exact ⟨_, _, e, rfl⟩
  | (_, _) :: _, (_, _) :: _, i + 1, _, _, ⟨_, _, t⟩, z => MvsAt.at (i := i) t z
  | [], _ :: _, _, _, _, h, _ => h.elim
  | _ :: _, [], _, _, _, h, _ => h.elim
theorem MvsAt.snoc {H : Hp} {n : Str} {x : Mvd} {p : Addr} (h : MovD K H p x) : ∀ {kvs : List (Key × V)} {ms : List (Str × Mvd)}, MvsAt K H kvs ms → MvsAt K H (kvs ++ [(Sum.inr n, .ref p)]) (ms ++ [(n, x)])
  | [], [], _ => ⟨rfl, ⟨p, rfl, h⟩, trivial⟩
  | (_, _) :: _, (_, _) :: _, ⟨e, y, t⟩ => ⟨e, y, MvsAt.snoc h t⟩
  | [], _ :: _, h => h.elim
  | _ :: _, [], h => h.elim
theorem w_new : ("w" : Str) ∉ names3 := by decide +kernel
theorem look_none {ms : List (Str × Mvd)} {n : Str} (h : n ∉ ms.map (·.1)) : ms.lookup n = none := by
  rw [List.lookup_eq_none_iff]
  intro y hy
  have z : n ≠ y.1 := fun e => h (e ▸ List.mem_map.mpr ⟨y, hy, rfl⟩)
  simpa using z
theorem mv_w {ms : List (Str × Mvd)} {m : Mvd} (mem : ∀ n ∈ ms.map (·.1), n ∈ names3) : mvEq [("w", m)] ms = false ∧ mvEq ms [("w", m)] = false := by
  refine ⟨mvEq_no (n := "w") (m := m) List.mem_cons_self (by rw [look_none fun z => w_new (mem _ z)]; exact fun z => by cases z), ?_⟩
  cases ms with
  | nil => exact mvEq_len (by simp)
  | cons x r =>
    refine mvEq_no (n := x.1) (m := x.2) List.mem_cons_self ?_
    have ne : x.1 ≠ "w" := fun z => w_new (z ▸ mem x.1 (by simp))
    rw [lookup_ne ne]
    exact fun z => by cases z
def spChR (K : PySem.W.Frag) : Sp := fun vs H Q _ => ∃ (s du t dm : Addr) (g a : Str) (rows : List Row) (ms ms' : List (Str × Mvd)) (kvd : List (Key × V)), vs = [.ref s, .ref du] ∧ Apart K H s du t dm g a rows ms ms' kvd ∧ g ∉ [("zz" : Str)] ∧ a ∉ ([("zz" : Str), "q"] : List Str) ∧ ∀ H', Same H H' → Q (.bl true) H'
abbrev nChR : List Str := ["_law_rule", "_law_due", "_law_other", "_law_move_now", "_law_twins", "_law_twin", "_law_name_now", "_law_fewer", "_law_wider", "_law_key_now"]
theorem scChR : FnScope nChR ["_law_rule", "_law_due"] (defScope sChR) := ⟨rfl, rfl, rfl, by decide +kernel, rfl, by decide +kernel, by decide +kernel⟩
theorem ok_chR {f : Addr} {fd : FuncData} (F : Fun K "_law_changed_right" "_law_changed_right" sChR f fd) (Z : MkU P w K mg base) : FnOk P w K mg base CX0 9 f fd ["_law_rule", "_law_due"] (spChR K) := by
  obtain ⟨fC, mC, GC_⟩ := Z.ch
  obtain ⟨fU, fdU, gU, MU, GU, KU⟩ := Z.mU
  obtain ⟨fU1, fdU1, gU1, MU1, GU1, KU1⟩ := Z.mU1
  obtain ⟨fE, oE, GE⟩ := Z.eq
  obtain ⟨fM, fdM, MM, GM, bM⟩ := Z.M.mM
  obtain ⟨fR, fdR, dR, MR, GR, _, _, bR0⟩ := Z.G.mR
  have TM := Z.M.T
  have TR := Z.G.T
  have U := Z.U.U
  have N := Z.U.N
  have GCh := K18.FnK.ground GC_
  have G0 := K18.FnOk.ground GU
  have G1 := K18.FnOk.ground GU1
  refine F.ok scChR (fun vs H Q E h => ?_) (fun cdv A outer s H vs Q E hr h => ?_)
  · obtain ⟨s, du, t, dm, g, a, rows, ms, ms', kvd, rfl, _⟩ := h
    rfl
  · obtain ⟨s0, du, t, dm, g, a, rows, ms, ms', kvd, rfl, ap, gz, az, k⟩ := h
    have hu := hr.units
    have hu1 : (A.deeper (envOfC "_law_changed_right" (defScope sChR) s.heap.objs.size f cdv)).units + 1 < cLine := by omega
    have hr8 := hr.mono (show 7 ≤ 8 by decide)
    have r7 := hr.mono (show 7 ≤ 8 by decide)
    have r6 := hr.mono (show 6 ≤ 8 by decide)
    have r5 := hr.mono (show 5 ≤ 8 by decide)
    refine ⟨_, (pss_cons (ps_set (i := 2) scChR.nd rfl (Or.inl rfl) (pe_lst (pa_cons (pe_tup (pa_cons pe_str (pa_cons pe_str (pa_cons (pe_make MR GR (hr8.mono (by decide)) rfl TR.gR bR0 .nil pass0 (pa_cons pe_int (pa_cons pe_int pa_nil))) pa_nil)))) pa_nil)))
      (pss_cons (ps_set (i := 3) scChR.nd rfl (Or.inl rfl) (pe_disp (pps_cons pe_str (pe_make MM GM r7 rfl TM.gM bM .nil pass0 (pa_cons pe_int (pa_cons pe_int (pa_cons pe_int (pa_cons pe_int pa_nil))))) pps_nil) rfl rfl (by simp) (by decide)))
      (pss_cons (ps_if (PW.pt (pw_or (pt_cmpR (op_neO oE GE r6 pass0) (pe_methK (ks := []) (pv 0) U.cl mC GCh hr8 pass0 pk_nil (by decide) (by decide) (by show 0 ≤ sizeLine; decide)) (pv 0) (nomark _)) (pw_or1 (pt_cmpR (op_neO oE GE r6 pass0) (pe_methK (ks := ["goal"]) (pv 0) U.cl mC GCh hr8 pass0 (pk_cons pe_str pk_nil) (by decide) (by decide) (by show 1 ≤ sizeLine; decide)) (pe_makeK (ks := ["when", "moves"]) MU G0 r6 rfl U.gU KU pass0 (pa_cons pe_str (pa_cons (pe_ix ix_list (pv 1) pe_int (fun _ _ => rfl)) pa_nil)) (pk_cons (pe_ix ix_list (pv 1) pe_int (fun _ _ => rfl)) (pk_cons (pe_ix ix_list (pv 1) pe_int (fun _ _ => rfl)) pk_nil))) (nomark _))))) (pss_one (ps_ret pe_bl)) pss_nil)
      (pss_cons (ps_if (pt_cmpR (op_neO oE GE r6 pass0) (pe_methK (ks := ["answer"]) (pv 0) U.cl mC GCh hr8 pass0 (pk_cons pe_str pk_nil) (by decide) (by decide) (by show 1 ≤ sizeLine; decide)) (pe_makeK (ks := ["when", "moves"]) MU G0 r6 rfl U.gU KU pass0 (pa_cons (pe_ix ix_list (pv 1) pe_int (fun _ _ => rfl)) (pa_cons pe_str pa_nil)) (pk_cons (pe_ix ix_list (pv 1) pe_int (fun _ _ => rfl)) (pk_cons (pe_ix ix_list (pv 1) pe_int (fun _ _ => rfl)) pk_nil))) (nomark _)) (pss_one (ps_ret pe_bl)) pss_nil)
      (pss_cons (ps_if (pt_cmpR (op_neO oE GE r6 pass0) (pe_methK (ks := ["when"]) (pv 0) U.cl mC GCh hr8 pass0 (pk_cons (pv 2) pk_nil) (by decide) (by decide) (by show 1 ≤ sizeLine; decide)) (pe_makeK (ks := ["when", "moves"]) MU G0 r6 rfl U.gU KU pass0 (pa_cons (pe_ix ix_list (pv 1) pe_int (fun _ _ => rfl)) (pa_cons (pe_ix ix_list (pv 1) pe_int (fun _ _ => rfl)) pa_nil)) (pk_cons (pv 2) (pk_cons (pe_ix ix_list (pv 1) pe_int (fun _ _ => rfl)) pk_nil))) (nomark _)) (pss_one (ps_ret pe_bl)) pss_nil)
      (pss_cons (ps_if (pt_cmpR (op_neO oE GE r6 pass0) (pe_methK (ks := ["moves", "answer"]) (pv 0) U.cl mC GCh hr8 pass0 (pk_cons (pv 3) (pk_cons pe_str pk_nil)) (by decide) (by decide) (by show 2 ≤ sizeLine; decide)) (pe_makeK (ks := ["when", "moves"]) MU G0 r6 rfl U.gU KU pass0 (pa_cons (pe_ix ix_list (pv 1) pe_int (fun _ _ => rfl)) (pa_cons pe_str pa_nil)) (pk_cons (pe_ix ix_list (pv 1) pe_int (fun _ _ => rfl)) (pk_cons (pv 3) pk_nil))) (nomark _)) (pss_one (ps_ret pe_bl)) pss_nil)
      (pss_cons (ps_set (i := 4) scChR.nd rfl (Or.inl rfl) (pe_lst (pa_cons (pe_methK (ks := ["goal"]) (pv 0) U.cl mC GCh hr8 pass0 (pk_cons pe_str pk_nil) (by decide) (by decide) (by show 1 ≤ sizeLine; decide)) (pa_cons (pe_methK (ks := ["answer"]) (pv 0) U.cl mC GCh hr8 pass0 (pk_cons pe_str pk_nil) (by decide) (by decide) (by show 1 ≤ sizeLine; decide)) (pa_cons (pe_methK (ks := ["when"]) (pv 0) U.cl mC GCh hr8 pass0 (pk_cons (pv 2) pk_nil) (by decide) (by decide) (by show 1 ≤ sizeLine; decide)) pa_nil)))))
      (pss_cons (ps_for PassesOwn.never rfl (pi_list (pe_op op_cat (pv 4) (pe_lst (pa_cons (pe_methK (ks := ["moves"]) (pv 0) U.cl mC GCh hr8 pass0 (pk_cons (pv 3) pk_nil) (by decide) (by decide) (by show 1 ≤ sizeLine; decide)) pa_nil)))) (pg_name (i := 5) scChR.nd rfl (Or.inl rfl)) (pss_one (ps_if (PW.pt (pw_or (pt_cmpR (op_eqO oE GE r5 pass0) (pv 5) (pv 0) (nomark _)) (pw_or (pt_cmpR (op_eqO oE GE r5 pass0) (pv 0) (pv 5) (nomark _)) (pw_or (pt_not (pt_cmpR (op_neO oE GE r6 pass0) (pv 5) (pv 0) (nomark _))) (pw_or1 (pt_not (pt_cmpR (op_neO oE GE r6 pass0) (pv 0) (pv 5) (nomark _)))))))) (pss_one (ps_ret pe_bl)) pss_nil)))
      (pss_cons (ps_lock (ps_for PassesOwn.never rfl (pi_keys (pe_ix ix_list (pv 1) pe_int (fun _ _ => rfl))) (pg_name (i := 6) scChR.nd rfl (Or.inr rfl)) (pss_cons (ps_set (i := 7) scChR.nd rfl (Or.inl rfl) (pe_callTy (call_dictP rfl) (by rfl) N.dict (by decide +kernel) (pa_cons (pe_lc (own := [("_law_key_now", 9)]) (g := gName 9) rfl scChR.nd (pi_keys (pe_ix ix_list (pv 1) pe_int (fun _ _ => rfl))) (blkOk_by (own := [("_law_key_now", 9)]) (N := nChR) (sc := defScope sChR) (by decide +kernel)) (fun _ _ _ _ _ => pg_name (i := 9) scChR.nd rfl (Or.inl rfl)) (fun _ _ _ _ _ => pts_one (pt_cmpR op_ne (pv 9) (pv 6) (nomark _))) (fun _ _ _ _ _ => by exact (pe_tup (pa_cons (pv 9) (pa_cons (pe_dget hu1 (pe_ix (show IxR _ (rIxL K) from ix_list) (pv 1) pe_int (fun _ _ => rfl)) (pv 9) (fun _ _ => rfl)) pa_nil))))) pa_nil))) (pss_cons (ps_set (i := 5) scChR.nd rfl (Or.inl rfl) (pe_makeK (ks := ["when", "moves"]) MU G0 r6 rfl U.gU KU pass0 (pa_cons (pe_ix ix_list (pv 1) pe_int (fun _ _ => rfl)) (pa_cons (pe_ix ix_list (pv 1) pe_int (fun _ _ => rfl)) pa_nil)) (pk_cons (pe_ix ix_list (pv 1) pe_int (fun _ _ => rfl)) (pk_cons (pv 7) pk_nil)))) (pss_one (ps_if (PW.pt (pw_or (pt_cmpR (op_eqO oE GE r5 pass0) (pv 5) (pv 0) (nomark _)) (pw_or1 (pt_cmpR (op_eqO oE GE r5 pass0) (pv 0) (pv 5) (nomark _))))) (pss_one (ps_ret pe_bl)) pss_nil))))))
      (pss_cons (ps_set (i := 8) scChR.nd rfl (Or.inl rfl) (pe_callTy (call_dictP rfl) (by rfl) N.dict (by decide +kernel) (pa_cons (pe_op op_cat (LiI.pe_listItems rfl (pe_ix ix_list (pv 1) pe_int (fun _ _ => rfl)) (by rfl) N.list (by decide +kernel)) (pe_lst (pa_cons (pe_tup (pa_cons pe_str (pa_cons (pe_make MM GM r7 rfl TM.gM bM .nil pass0 (pa_cons pe_int (pa_cons pe_int (pa_cons pe_int (pa_cons pe_int pa_nil))))) pa_nil))) pa_nil))) pa_nil)))
      (pss_cons (ps_if (PW.pt (pw_or (pt_cmpR (op_eqO oE GE r5 pass0) (pv 0) (pe_makeK (ks := ["when", "moves"]) MU G0 r6 rfl U.gU KU pass0 (pa_cons (pe_ix ix_list (pv 1) pe_int (fun _ _ => rfl)) (pa_cons (pe_ix ix_list (pv 1) pe_int (fun _ _ => rfl)) pa_nil)) (pk_cons (pe_ix ix_list (pv 1) pe_int (fun _ _ => rfl)) (pk_cons (pv 8) pk_nil))) (nomark _)) (pw_or1 (pt_cmpR (op_eqO oE GE r5 pass0) (pe_methK (ks := ["moves"]) (pv 0) U.cl mC GCh hr8 pass0 (pk_cons (pv 8) pk_nil) (by decide) (by decide) (by show 1 ≤ sizeLine; decide)) (pv 0) (nomark _))))) (pss_one (ps_ret pe_bl)) pss_nil)
      (pss_one (ps_ret (pe_and (pe_cmpR (op_eqO oE GE r5 pass0) (pe_methK (ks := ["moves"]) (pv 0) U.cl mC GCh hr8 pass0 (pk_cons pe_non pk_nil) (by decide) (by decide) (by show 1 ≤ sizeLine; decide)) (pe_makeK (ks := ["when"]) MU1 G1 r6 rfl U.gU KU1 pass0 (pa_cons (pe_ix ix_list (pv 1) pe_int (fun _ _ => rfl)) (pa_cons (pe_ix ix_list (pv 1) pe_int (fun _ _ => rfl)) pa_nil)) (pk_cons (pe_ix ix_list (pv 1) pe_int (fun _ _ => rfl)) pk_nil)) (nomark _)) (pe_one (pe_cmpR (op_neO oE GE r6 pass0) (pv 0) (pe_callTy call_tuple_of (by rfl) N.tuple (by decide +kernel) (pa_cons (pv 1) pa_nil)) (nomark _))))))))))))))))), ?_⟩
    have D := ap.D
    have toH : Same (off H dm) H := fun b o e => (off_some e).2
    have ru0 : RuleM K H s0 g a rows ms' := ap.ru.same toH
    have nd' : (ms'.map (·.1)).Nodup := SortM.nd ap.so D.nd
    have l64' : ms'.length < 64 := by rw [ap.so.1.length_eq]; exact D.l64
    have mem' : ∀ n ∈ ms'.map (·.1), n ∈ names3 := fun n hn => ap.mem n ((ap.so.1.map (·.1)).mem_iff.mp hn)
    have nm' := fun n hn => names_nm n (mem' n hn)
    have nm := fun n hn => names_nm n (ap.mem n hn)
    obtain ⟨kvs, ⟨dx, tw, md, es, rt⟩, mm⟩ := id ru0
    have mgD : MovesGiven K H (.ref dm) ms := .inr ⟨dm, kvd, rfl, D.dm, D.mv, D.l64, D.nd, nm⟩
    have whD : WhenAt K H t rows := D.t.when
    have nzz : NameS "zz" := NameS.of (by decide +kernel)
    have nq : NameS "q" := NameS.of (by decide +kernel)
    have sz0 : Sz 100000 ((0 : Int) : Rat) := Sz.mono (n := 30) ⟨by decide +kernel, by decide +kernel⟩ (by decide)
    have sz5 : Sz 100000 ((5 : Int) : Rat) := Sz.mono (n := 30) ⟨by decide +kernel, by decide +kernel⟩ (by decide)
    intro xr dxr hxr hdr ner
    refine ⟨xr, dxr, 1, 2, rfl, by decide, by decide +kernel, upd_same, fun H1 er kpr => ⟨rfl, ?_⟩⟩
    have s1 : Same H H1 := fun c o ec => kpr c o (ne_of_none ec hxr) (by rw [upd_ne (ne_of_none ec hxr), upd_ne (ne_of_none ec hdr)]; exact ec)
    have hra : RatAt K H1 xr (Rat.divInt 1 2) := ⟨dxr, er⟩
    refine ⟨(by show 3 ≤ sizeLine; decide), fun tr ntr => ?_⟩
    have u1 := same_new (o := .tup [V.str "w", .str "to", .ref xr]) ntr
    have htr : upd H1 tr (.tup [V.str "w", .str "to", .ref xr]) tr = some (.tup [V.str "w", .str "to", .ref xr]) := upd_same
    have hra1 := hra.same u1
    generalize upd H1 tr (.tup [V.str "w", .str "to", .ref xr]) = H1' at u1 htr hra1 ⊢
    refine ⟨(by show 1 ≤ sizeLine; decide), fun lo nlo => ?_⟩
    have u2 := same_new (o := .lst [V.ref tr]) nlo
    have hlo : upd H1' lo (.lst [V.ref tr]) lo = some (.lst [V.ref tr]) := upd_same
    obtain ⟨orow, eor⟩ : ∃ orow : Row, orow = (("w" : Str), ("to" : Str), Rat.divInt 1 2) := ⟨_, rfl⟩
    have whO : WhenAt K (upd H1' lo (.lst [V.ref tr])) lo [orow] := .lst hlo ⟨rfl, fun i v r e1 e2 => by
      match i, e1, e2 with
      | 0, e1, e2 =>
        cases e1
        cases e2
        rw [eor]
        exact ⟨tr, .ref xr, rfl, u2 _ _ htr, .inr ⟨xr, rfl, hra1.same u2⟩⟩⟩
    have okO : RowsOk [orow] := fun r hr => by
      rw [List.mem_singleton.mp hr, eor]
      exact ⟨NameS.of (by decide +kernel), by decide +kernel⟩
    have sA : Same H (upd H1' lo (.lst [V.ref tr])) := (s1.trans u1).trans u2
    generalize upd H1' lo (.lst [V.ref tr]) = H2 at sA whO ⊢
    intro dmv ndmv
    intro xm dxm hxm hdm nem
    refine made_movR hxm hdm (by decide) (.inl ⟨1, rfl, rfl⟩) (.inl ⟨0, rfl, rfl⟩) (.inl ⟨5, rfl, rfl⟩) sz0 sz5 (by decide +kernel) fun H3 s3 hm3 => ⟨rfl, ?_⟩
    have edm : H3 dmv = some (.dK []) := s3 _ _ upd_same
    refine ⟨edm, [(Sum.inr "w", V.ref xm)], rfl, by show 1 ≤ 15; decide, ?_⟩
    rw [show mergeK [] [(Sum.inr ("w" : Str), V.ref xm)] = [((Sum.inr "w" : Key), V.ref xm)] from rfl]
    have sB : Same H2 (upd H3 dmv (.dK [(Sum.inr "w", V.ref xm)])) := fun b o e => by
      rw [upd_ne (ne_of_none e ndmv)]
      exact s3 _ _ (by rw [upd_ne (ne_of_none e ndmv)]; exact e)
    obtain ⟨mnow, emn⟩ : ∃ mnow : Mvd, mnow = (2, ((1 : Int) : Rat), ((0 : Int) : Rat), ((5 : Int) : Rat)) := ⟨_, rfl⟩
    have mvN : MovesGiven K (upd H3 dmv (.dK [(Sum.inr "w", V.ref xm)])) (.ref dmv) [("w", mnow)] := .inr ⟨dmv, _, rfl, upd_same, ⟨rfl, ⟨xm, rfl, by
      rw [emn]
      exact hm3.keep fun b C dx fs e => (upd_ne (fun z => by rw [z, edm] at e; cases e)).trans e⟩, trivial⟩, by show 1 < 64; decide, by simp, fun n hn => by
      rw [List.map_singleton, List.mem_singleton] at hn
      obtain rfl : n = "w" := hn
      exact NameS.of (by decide +kernel)⟩
    have s0_ : Same H (upd H3 dmv (.dK [(Sum.inr "w", V.ref xm)])) := sA.trans sB
    have whO' := whO.same sB
    generalize upd H3 dmv (.dK [(Sum.inr "w", V.ref xm)]) = H4 at s0_ mvN whO' ⊢
    have T0 : Same H4 H4 := fun b o e => e
    refine ⟨_, rfl, s0, dx, _, rfl, (s0_.trans T0) _ _ es, rfl, rfl, chg TM (ru0.same (s0_.trans T0)) l64' nd' nm' (by decide +kernel) (by show 0 < 64; decide) rfl rfl (fun tw h => ⟨tw, rfl, h.when⟩) (fun md h => h) ap.ng ap.na ap.rok D.l8 fun x1 G1 m1 t1 so1 r1 => ?_⟩
    have T1 : Same H4 G1 := fun b o e => t1 _ _ (T0 _ _ e)
    refine ⟨_, rfl, own_ne Z.U r1 (ru0.same (s0_.trans T1)) fun G2 t2 => ⟨_, rfl, ?_⟩⟩
    have T2 : Same H4 G2 := fun b o e => t2 _ _ (T1 _ _ e)
    rw [ruleEq_yes nd' so1.1]
    refine iteF ?_
    refine ⟨_, rfl, s0, dx, _, rfl, (s0_.trans T2) _ _ es, rfl, rfl, chg TM (ru0.same (s0_.trans T2)) l64' nd' nm' (by decide +kernel) (by show 1 < 64; decide) rfl rfl (fun tw h => ⟨tw, rfl, h.when⟩) (fun md h => h) nzz ap.na ap.rok D.l8 fun x3 G3 m3 t3 so3 r3 => ?_⟩
    have T3 : Same H4 G3 := fun b o e => t3 _ _ (T2 _ _ e)
    refine ⟨_, rfl, du, _, _, _, rfl, rfl, SqL.of ((s0_.trans T3) _ _ D.du), rfl, _, rfl, du, _, _, _, rfl, rfl, SqL.of ((s0_.trans T3) _ _ D.du), rfl, _, rfl, du, _, _, _, rfl, rfl, SqL.of ((s0_.trans T3) _ _ D.du), rfl, rfl, rfl, fun x4 d4 hx4 hd4 ne4 => ?_⟩
    change spRuleI K [.ref x4, .str "zz", .str a, .ref t, .ref dm] _ _ E0
    refine rule_when TM hx4 hd4 nzz ap.na (whD.same (s0_.trans T3)) ap.rok D.l8 (mgD.same (s0_.trans T3)) fun G4 m4 t4 so4 r4 => ⟨rfl, ?_⟩
    have T4 : Same H4 G4 := fun b o e => t4 _ _ (T3 _ _ e)
    refine own_ne Z.U (r3.same t4) r4 fun G5 t5 => ⟨_, rfl, ?_⟩
    have T5 : Same H4 G5 := fun b o e => t5 _ _ (T4 _ _ e)
    rw [ruleEq_yes (SortM.nd so4 D.nd) (so3.1.trans (ap.so.1.trans so4.1.symm))]
    refine iteF ?_
    refine ⟨_, rfl, s0, dx, _, rfl, (s0_.trans T5) _ _ es, rfl, rfl, chg TM (ru0.same (s0_.trans T5)) l64' nd' nm' (by decide +kernel) (by show 1 < 64; decide) rfl rfl (fun tw h => ⟨tw, rfl, h.when⟩) (fun md h => h) ap.ng nzz ap.rok D.l8 fun x6 G6 m6 t6 so6 r6 => ?_⟩
    have T6 : Same H4 G6 := fun b o e => t6 _ _ (T5 _ _ e)
    refine ⟨_, rfl, du, _, _, _, rfl, rfl, SqL.of ((s0_.trans T6) _ _ D.du), rfl, _, rfl, du, _, _, _, rfl, rfl, SqL.of ((s0_.trans T6) _ _ D.du), rfl, _, rfl, du, _, _, _, rfl, rfl, SqL.of ((s0_.trans T6) _ _ D.du), rfl, rfl, rfl, fun x7 d7 hx7 hd7 ne7 => ?_⟩
    change spRuleI K [.ref x7, .str g, .str "zz", .ref t, .ref dm] _ _ E0
    refine rule_when TM hx7 hd7 ap.ng nzz (whD.same (s0_.trans T6)) ap.rok D.l8 (mgD.same (s0_.trans T6)) fun G7 m7 t7 so7 r7 => ⟨rfl, ?_⟩
    have T7 : Same H4 G7 := fun b o e => t7 _ _ (T6 _ _ e)
    refine own_ne Z.U (r6.same t7) r7 fun G8 t8 => ⟨_, rfl, ?_⟩
    have T8 : Same H4 G8 := fun b o e => t8 _ _ (T7 _ _ e)
    rw [ruleEq_yes (SortM.nd so7 D.nd) (so6.1.trans (ap.so.1.trans so7.1.symm))]
    refine iteF ?_
    refine ⟨_, rfl, s0, dx, _, rfl, (s0_.trans T8) _ _ es, rfl, _, rfl, rfl, chg TM (ru0.same (s0_.trans T8)) l64' nd' nm' (by decide +kernel) (by show 1 < 64; decide) rfl rfl (fun tw h => ⟨lo, rfl, whO'.same T8⟩) (fun md h => h) ap.ng ap.na okO (by show 1 ≤ 8; decide) fun x9 G9 m9 t9 so9 r9 => ?_⟩
    have T9 : Same H4 G9 := fun b o e => t9 _ _ (T8 _ _ e)
    refine ⟨_, rfl, du, _, _, _, rfl, rfl, SqL.of ((s0_.trans T9) _ _ D.du), rfl, _, rfl, du, _, _, _, rfl, rfl, SqL.of ((s0_.trans T9) _ _ D.du), rfl, _, rfl, _, rfl, du, _, _, _, rfl, rfl, SqL.of ((s0_.trans T9) _ _ D.du), rfl, rfl, rfl, fun x10 d10 hx10 hd10 ne10 => ?_⟩
    change spRuleI K [.ref x10, .str g, .str a, .ref lo, .ref dm] _ _ E0
    refine rule_when TM hx10 hd10 ap.ng ap.na (whO'.same T9) okO (by show 1 ≤ 8; decide) (mgD.same (s0_.trans T9)) fun G10 m10 t10 so10 r10 => ⟨rfl, ?_⟩
    have T10 : Same H4 G10 := fun b o e => t10 _ _ (T9 _ _ e)
    refine own_ne Z.U (r9.same t10) r10 fun G11 t11 => ⟨_, rfl, ?_⟩
    have T11 : Same H4 G11 := fun b o e => t11 _ _ (T10 _ _ e)
    rw [ruleEq_yes (SortM.nd so10 D.nd) (so9.1.trans (ap.so.1.trans so10.1.symm))]
    refine iteF ?_
    refine ⟨_, rfl, s0, dx, _, rfl, (s0_.trans T11) _ _ es, rfl, _, rfl, rfl, chg TM (ru0.same (s0_.trans T11)) l64' nd' nm' (by decide +kernel) (by show 2 < 64; decide) rfl rfl (fun tw h => ⟨tw, rfl, h.when⟩) (fun md _ => mvN.same T11) ap.ng nq ap.rok D.l8 fun x12 G12 m12 t12 so12 r12 => ?_⟩
    have T12 : Same H4 G12 := fun b o e => t12 _ _ (T11 _ _ e)
    refine ⟨_, rfl, du, _, _, _, rfl, rfl, SqL.of ((s0_.trans T12) _ _ D.du), rfl, _, rfl, du, _, _, _, rfl, rfl, SqL.of ((s0_.trans T12) _ _ D.du), rfl, _, rfl, rfl, rfl, fun x13 d13 hx13 hd13 ne13 => ?_⟩
    change spRuleI K [.ref x13, .str g, .str "q", .ref t, .ref dmv] _ _ E0
    refine rule_when TM hx13 hd13 ap.ng nq (whD.same (s0_.trans T12)) ap.rok D.l8 (mvN.same T12) fun G13 m13 t13 so13 r13 => ⟨rfl, ?_⟩
    have T13 : Same H4 G13 := fun b o e => t13 _ _ (T12 _ _ e)
    refine own_ne Z.U (r12.same t13) r13 fun G14 t14 => ⟨_, rfl, ?_⟩
    have T14 : Same H4 G14 := fun b o e => t14 _ _ (T13 _ _ e)
    rw [ruleEq_yes (SortM.nd so13 (by simp)) (so12.1.trans so13.1.symm)]
    refine iteF ?_
    refine ⟨_, rfl, s0, dx, _, rfl, (s0_.trans T14) _ _ es, rfl, rfl, chg TM (ru0.same (s0_.trans T14)) l64' nd' nm' (by decide +kernel) (by show 1 < 64; decide) rfl rfl (fun tw h => ⟨tw, rfl, h.when⟩) (fun md h => h) nzz ap.na ap.rok D.l8 fun x15 G15 m15 t15 so15 r15 => ?_⟩
    have T15 : Same H4 G15 := fun b o e => t15 _ _ (T14 _ _ e)
    refine ⟨_, rfl, s0, dx, _, rfl, (s0_.trans T15) _ _ es, rfl, rfl, chg TM (ru0.same (s0_.trans T15)) l64' nd' nm' (by decide +kernel) (by show 1 < 64; decide) rfl rfl (fun tw h => ⟨tw, rfl, h.when⟩) (fun md h => h) ap.ng nzz ap.rok D.l8 fun x16 G16 m16 t16 so16 r16 => ?_⟩
    have T16 : Same H4 G16 := fun b o e => t16 _ _ (T15 _ _ e)
    refine ⟨_, rfl, s0, dx, _, rfl, (s0_.trans T16) _ _ es, rfl, _, rfl, rfl, chg TM (ru0.same (s0_.trans T16)) l64' nd' nm' (by decide +kernel) (by show 1 < 64; decide) rfl rfl (fun tw h => ⟨lo, rfl, whO'.same T16⟩) (fun md h => h) ap.ng ap.na okO (by show 1 ≤ 8; decide) fun x17 G17 m17 t17 so17 r17 => ?_⟩
    have T17 : Same H4 G17 := fun b o e => t17 _ _ (T16 _ _ e)
    refine ⟨(by show 3 ≤ sizeLine; decide), fun tl ntl => ?_⟩
    have u18 := same_new (o := .lst [V.ref x15, .ref x16, .ref x17]) ntl
    have htl : upd G17 tl (.lst [V.ref x15, .ref x16, .ref x17]) tl = some (.lst [V.ref x15, .ref x16, .ref x17]) := upd_same
    generalize upd G17 tl (.lst [V.ref x15, .ref x16, .ref x17]) = G18 at u18 htl ⊢
    have T18 : Same H4 G18 := T17.trans u18
    have hgz : g ≠ "zz" := fun z => gz (by rw [z]; exact List.mem_cons_self)
    have haz : a ≠ "zz" := fun z => az (by rw [z]; exact List.mem_cons_self)
    have how : rows ≠ [orow] := fun z => w_new (by
      have y := ap.rmem orow (by rw [z]; exact List.mem_cons_self)
      rw [eor] at y
      exact y)
    have w15 : Tw K G18 (.ref x15) g a rows ms' := ⟨x15, _, _, _, _, rfl, ((r15.same t16).same t17).same u18, ruleEq_g (Ne.symm hgz), ruleEq_g hgz⟩
    have w16 : Tw K G18 (.ref x16) g a rows ms' := ⟨x16, _, _, _, _, rfl, (r16.same t17).same u18, ruleEq_a (Ne.symm haz), ruleEq_a haz⟩
    have w17 : Tw K G18 (.ref x17) g a rows ms' := ⟨x17, _, _, _, _, rfl, r17.same u18, ruleEq_w (Ne.symm how), ruleEq_w how⟩
    refine ⟨_, rfl, _, rfl, s0, dx, _, rfl, (s0_.trans T18) _ _ es, rfl, _, rfl, rfl, chg TM (ru0.same (s0_.trans T18)) l64' nd' nm' (by decide +kernel) (by show 1 < 64; decide) rfl rfl (fun tw h => ⟨tw, rfl, h.when⟩) (fun md _ => mvN.same T18) ap.ng ap.na ap.rok D.l8 fun x19 G19 m19 t19 so19 r19 => ?_⟩
    have e19 : m19 = [(("w" : Str), mnow)] := List.perm_singleton.mp so19.1
    obtain ⟨q1, q2⟩ := mv_w (m := mnow) mem'
    have w19 : Tw K G19 (.ref x19) g a rows ms' := ⟨x19, _, _, _, _, rfl, r19, ruleEq_m (by rw [e19]; exact q1), ruleEq_m (by rw [e19]; exact q2)⟩
    refine ⟨(by show 1 ≤ sizeLine; decide), fun l2 nl2 => ?_⟩
    have u20 := same_new (o := .lst [V.ref x19]) nl2
    have hl2 : upd G19 l2 (.lst [V.ref x19]) l2 = some (.lst [V.ref x19]) := upd_same
    generalize upd G19 l2 (.lst [V.ref x19]) = G20 at u20 hl2 ⊢
    refine ⟨tl, l2, _, _, rfl, rfl, u20 _ _ (t19 _ _ htl), hl2, (by show 4 ≤ sizeLine; decide), fun l3 nl3 => ?_⟩
    have u21 := same_new (o := .lst ([V.ref x15, .ref x16, .ref x17] ++ [V.ref x19])) nl3
    have hl3 : upd G20 l3 (.lst ([V.ref x15, .ref x16, .ref x17] ++ [V.ref x19])) l3 = some (.lst ([V.ref x15, .ref x16, .ref x17] ++ [V.ref x19])) := upd_same
    generalize upd G20 l3 (.lst ([V.ref x15, .ref x16, .ref x17] ++ [V.ref x19])) = G21 at u21 hl3 ⊢
    have T21 : Same H4 G21 := ((T18.trans t19).trans u20).trans u21
    have all : ∀ v ∈ ([V.ref x15, .ref x16, .ref x17] ++ [V.ref x19]), Tw K G21 v g a rows ms' := fun v hv => by
      have sk : Same G18 G21 := (t19.trans u20).trans u21
      simp only [List.cons_append, List.nil_append, List.mem_cons, List.not_mem_nil, or_false] at hv
      rcases hv with rfl | rfl | rfl | rfl
      · exact w15.same sk
      · exact w16.same sk
      · exact w17.same sk
      · exact w19.same (u20.trans u21)
    refine ⟨l3, rfl, ⟨_, SqL.of hl3⟩, ?_⟩
    refine for_list (K := K) (a := l3) (xs := [V.ref x15, .ref x16, .ref x17] ++ [V.ref x19]) (fun i z G => Same G21 G ∧ ∃ v5, z = [some (.ref s0), some (.ref du), some (.ref lo), some (.ref dmv), some (.ref tl), v5, none, none, none, none]) ⟨fun _ _ e => e, none, rfl⟩ (fun i z G _ ⟨sG, _⟩ => SqL.of (sG _ _ hl3)) ?_ ?_
    · rintro i y z G hi ⟨sG, v5, rfl⟩
      obtain ⟨x, g1, a1, rows1, ms1, rfl, rx, e1, e2⟩ := (all y (List.mem_of_getElem? hi)).same sG
      have rs : ∀ F, Same G F → RuleM K F s0 g a rows ms' := fun F f => ru0.same ((s0_.trans T21).trans (sG.trans f))
      refine ⟨_, rfl, _, rfl, own_eq Z.U rx (rs G fun _ _ e => e) fun F1 f1 => ⟨_, rfl, ?_⟩⟩
      rw [e1]
      refine iteF ?_
      refine ⟨_, rfl, _, rfl, own_eq Z.U (rs F1 f1) (rx.same f1) fun F2 f2 => ⟨_, rfl, ?_⟩⟩
      rw [e2]
      refine iteF ?_
      refine ⟨_, rfl, _, rfl, own_ne Z.U (rx.same (f1.trans f2)) (rs F2 (f1.trans f2)) fun F3 f3 => ⟨_, rfl, ?_⟩⟩
      rw [e1]
      refine iteF ?_
      refine ⟨_, rfl, _, rfl, own_ne Z.U (rs F3 ((f1.trans f2).trans f3)) (rx.same ((f1.trans f2).trans f3)) fun F4 f4 => ⟨_, rfl, ?_⟩⟩
      rw [e2]
      refine iteF ?_
      exact ⟨(((sG.trans f1).trans f2).trans f3).trans f4, _, rfl⟩
    · rintro z G22 ⟨sG, v5, rfl⟩
      have T22 : Same H4 G22 := T21.trans sG
      have SG : Same H G22 := s0_.trans T22
      have hdm : G22 dm = some (.dK kvd) := SG _ _ D.dm
      have hdu : G22 du = some (.lst [.str g, .str a, .ref t, .ref dm]) := SG _ _ D.du
      have ndk : (kvd.map (·.1)).Nodup := by
        rw [D.mv.keys]
        exact List.Pairwise.map _ (fun a b h z => h (Sum.inr.inj z)) D.nd
      refine ⟨dm, _, hdm, trivial, fun od => ?_⟩
      have nd_ : ∀ b o, H b = some o → (∀ kvs, o ≠ .dK kvs) → b ≠ dm := fun b o e n z => by
        rw [z, D.dm] at e
        cases e
        exact n _ rfl
      have k1 : ∀ b o, H b = some o → b ≠ dm → upd G22 dm (.frz od (.dK kvd)) b = some o := fun b o e n => (upd_ne n).trans (SG _ _ e)
      have ruL : RuleM K (upd G22 dm (.frz od (.dK kvd))) s0 g a rows ms' := ap.ru.same fun b o e => k1 b o (off_some e).2 (off_some e).1
      have rowL : RowsAt K (upd G22 dm (.frz od (.dK kvd))) t rows := by
        obtain ⟨ys, e, r⟩ := D.t
        refine ⟨ys, k1 _ _ e (nd_ _ _ e (fun _ z => by cases z)), r.keep (fun b xs e => k1 _ _ e (nd_ _ _ e (fun _ z => by cases z))) fun p q h => ?_⟩
        obtain ⟨d, e⟩ := h
        exact ⟨d, k1 _ _ e (nd_ _ _ e (fun _ z => by cases z))⟩
      have mvL : MvsAt K (upd G22 dm (.frz od (.dK kvd))) kvd ms := D.mv.keep fun p m h => h.keep fun b C dx fs e => k1 _ _ e (nd_ _ _ e (fun _ z => by cases z))
      have duL : upd G22 dm (.frz od (.dK kvd)) du = some (.lst [.str g, .str a, .ref t, .ref dm]) := k1 _ _ D.du (nd_ _ _ D.du (fun _ z => by cases z))
      have dmL : upd G22 dm (.frz od (.dK kvd)) dm = some (.frz od (.dK kvd)) := upd_same
      refine ⟨_, rfl, du, _, _, _, rfl, rfl, SqL.of duL, rfl, dm, od, rfl, .inl ⟨kvd, dmL, ?_⟩⟩
      obtain ⟨HL, eL⟩ : ∃ X, X = upd G22 dm (.frz od (.dK kvd)) := ⟨_, rfl⟩
      rw [← eL] at ruL rowL mvL duL dmL ⊢
      refine for_it walk_keys (fun j z G => Same HL G ∧ ∃ v5 v6 v7, z = [some (.ref s0), some (.ref du), some (.ref lo), some (.ref dmv), some (.ref tl), v5, v6, v7, none, none]) ⟨fun _ _ e => e, v5, none, none, rfl⟩ (fun j z G _ h => h.1 _ _ dmL) ?_ ?_
      · rintro j y z G G0 hj ⟨s, w5, w6, w7, rfl⟩ ⟨rfl, key, v, hk, rfl⟩
        obtain ⟨n, mv_, rfl, hn⟩ := MvsAt.at mvL hk
        obtain ⟨kf, ekf⟩ : ∃ kf : Key → Bool, kf = fun k => decide (k ≠ Sum.inr n) := ⟨_, rfl⟩
        refine ⟨_, rfl, du, _, _, _, rfl, rfl, SqL.of (s _ _ duL), rfl, dm, od, rfl, .inl ⟨kvd, s _ _ dmL, fun D8 hD8 => ?_⟩⟩
        refine lc_it walk_keys (fun i F => Same G0 F ∧ ∃ ps, F D8 = some (.lst (ps.map V.ref)) ∧ Paired (fun q (kv : Key × V) => F q = some (.tup [kV kv.1, kv.2])) ps ((kvd.take i).filter fun kv => kf kv.1)) ⟨same_new hD8, [], upd_same, .nil⟩ (fun _ _ _ h => h.1 _ _ (s _ _ dmL)) ?_ ?_
        · rintro i y F F9 hi ⟨s8, ps, hps, pr⟩ ⟨rfl, key, v', hk', rfl⟩
          obtain ⟨n', mv', rfl, hn'⟩ := MvsAt.at mvL hk'
          refine ⟨rfl, _, rfl, _, rfl, rfl, _, rfl, ?_⟩
          have tk : kvd.take (i + 1) = kvd.take i ++ [(Sum.inr n', v')] := by rw [List.take_add_one, hk']; rfl
          by_cases c : n' = n
          · have e1 : (!decide (V.str n' = V.str n)) = false := by simp [c]
            rw [show (!decide (kV (Sum.inr n') = kV (Sum.inr n))) = false from e1]
            refine iteF ?_
            refine ⟨s8, ps, hps, ?_⟩
            rw [tk, List.filter_append]
            have e2 : kf (Sum.inr n') = false := by rw [ekf]; simp [c]
            simp [e2]
            exact pr
          · have e1 : (!decide (V.str n' = V.str n)) = true := by simp [c]
            rw [show (!decide (kV (Sum.inr n') = kV (Sum.inr n))) = true from e1]
            refine iteT ?_
            refine ⟨_, rfl, _, rfl, du, _, _, _, rfl, rfl, SqL.of (s8 _ _ (s _ _ duL)), rfl, _, rfl, dm, v', rfl, .inl ⟨kvd, .inr n', .inr ⟨od, s8 _ _ (s _ _ dmL)⟩, rfl, (valV_at ndk hk').symm⟩, (by show 2 ≤ sizeLine; decide), fun t9 n9 => ?_⟩
            have u9 := same_new (o := .tup [kV (Sum.inr n'), v']) n9
            have e2 : kf (Sum.inr n') = true := by rw [ekf]; simp [c]
            have np : ∀ q xs, F9 q = some (.tup xs) → q ≠ D8 := fun q xs e z => by rw [z, hps] at e; cases e
            refine ⟨_, u9 _ _ hps, ?_, fun b o e => ?_, ps ++ [t9], ?_, ?_⟩
            · have z1 := pr.length
              have z2 := List.length_filter_le (fun kv : Key × V => kf kv.1) (kvd.take i)
              have z3 : (kvd.take i).length ≤ kvd.length := by rw [List.length_take]; omega
              have z4 := D.mv.len
              have z5 := D.l64
              rw [List.length_map, sizeLine_eq]
              omega
            · rw [upd_ne (ne_of_none e hD8)]
              exact u9 _ _ (s8 b o e)
            · rw [upd_same, List.map_append]
              rfl
            · rw [tk, List.filter_append]
              have e3 : ([((Sum.inr n' : Key), v')].filter fun kv => kf kv.1) = [((Sum.inr n' : Key), v')] := by simp [e2]
              rw [e3]
              refine (pr.mono fun q kv e => ?_).snoc ?_
              · rw [upd_ne (np _ _ e)]
                exact u9 _ _ e
              · rw [upd_ne (ne_of_none hps n9).symm]
                exact upd_same
        · rintro F8 ⟨s8, ps, hps, pr⟩
          rw [List.take_length] at pr
          have ndf : ((kvd.filter fun kv => kf kv.1).map (·.1)).Nodup := List.Nodup.sublist (List.Sublist.map _ List.filter_sublist) ndk
          refine ⟨D8, ps, _, rfl, SqL.of hps, pr.mono (fun q kv e => SqT.of e), fun q nq => ?_⟩
          rw [show mergeK [] (kvd.filter fun kv => kf kv.1) = kvd.filter fun kv => kf kv.1 from mergeK_new _ [] ndf]
          have mvf : MvsAt K HL (kvd.filter fun kv => kf kv.1) (ms.filter fun x => kf (Sum.inr x.1)) := MvsAt.filter mvL
          have uq := same_new (o := .dK (kvd.filter fun kv => kf kv.1)) nq
          have hq : upd F8 q (.dK (kvd.filter fun kv => kf kv.1)) q = some (.dK (kvd.filter fun kv => kf kv.1)) := upd_same
          generalize upd F8 q (.dK (kvd.filter fun kv => kf kv.1)) = F10 at uq hq ⊢
          generalize (kvd.filter fun kv => kf kv.1) = kvf at mvf hq
          have sF : Same HL F10 := (s.trans s8).trans uq
          have lf : (ms.filter fun x => kf (Sum.inr x.1)).length < ms.length := by
            refine List.length_filter_lt_length_iff_exists.mpr ⟨(n, mv_), List.mem_of_getElem? hn, ?_⟩
            rw [ekf]
            simp
          have mgF : MovesGiven K F10 (.ref q) (ms.filter fun x => kf (Sum.inr x.1)) := .inr ⟨q, kvf, rfl, hq, mvf.same sF, Nat.lt_trans lf D.l64, List.Nodup.sublist (List.Sublist.map _ List.filter_sublist) D.nd, fun n hn => nm n ((List.Sublist.map _ List.filter_sublist).subset hn)⟩
          refine ⟨_, rfl, du, _, _, _, rfl, rfl, SqL.of (sF _ _ duL), rfl, _, rfl, du, _, _, _, rfl, rfl, SqL.of (sF _ _ duL), rfl, _, rfl, du, _, _, _, rfl, rfl, SqL.of (sF _ _ duL), rfl, _, rfl, rfl, rfl, fun x11 d11 hx11 hd11 ne11 => ?_⟩
          change spRuleI K [.ref x11, .str g, .str a, .ref t, .ref q] _ _ E0
          refine rule_when TM hx11 hd11 ap.ng ap.na (rowL.when.same sF) ap.rok D.l8 mgF fun F11 m11 t11 so11 r11 => ⟨rfl, ?_⟩
          have lm : m11.length < ms'.length := by rw [so11.1.length_eq, ap.so.1.length_eq]; exact lf
          refine ⟨_, rfl, _, rfl, own_eq Z.U r11 (ruL.same (sF.trans t11)) fun F12 t12 => ⟨_, rfl, ?_⟩⟩
          rw [ruleEq_m (mvEq_len (Nat.ne_of_lt lm))]
          refine iteF ?_
          refine ⟨_, rfl, _, rfl, own_eq Z.U (ruL.same ((sF.trans t11).trans t12)) (r11.same t12) fun F13 t13 => ⟨_, rfl, ?_⟩⟩
          rw [ruleEq_m (mvEq_len (Nat.ne_of_gt lm))]
          refine iteF ?_
          exact ⟨((sF.trans t11).trans t12).trans t13, _, _, _, rfl⟩
      · rintro z G23 ⟨s, w5, w6, w7, rfl⟩
        refine ⟨s _ _ dmL, ?_⟩
        have T23 : Same G22 (upd G23 dm (.dK kvd)) := fun b o e => by
          by_cases c : b = dm
          · rw [c] at e ⊢
            rw [upd_same, ← e, hdm]
          · rw [upd_ne c]
            exact s b o (by rw [eL, upd_ne c]; exact e)
        generalize upd G23 dm (.dK kvd) = G24 at T23 ⊢
        have T24 : Same H4 G24 := T22.trans T23
        have S24 : Same H G24 := s0_.trans T24
        refine ⟨_, rfl, du, _, _, _, rfl, rfl, SqL.of (S24 _ _ D.du), rfl, dm, kvd, rfl, S24 _ _ D.dm, fun F1 p ts k1 np nts pts hp pr => ?_⟩
        intro xm2 dxm2 hx2 hd2 ne2
        refine made_movR hx2 hd2 (by decide) (.inl ⟨1, rfl, rfl⟩) (.inl ⟨0, rfl, rfl⟩) (.inl ⟨5, rfl, rfl⟩) sz0 sz5 (by decide +kernel) fun F2 s2 hm2 => ⟨rfl, ?_⟩
        refine ⟨(by show 2 ≤ sizeLine; decide), fun tw_ ntw => ?_⟩
        have u3 := same_new (o := .tup [V.str "w", .ref xm2]) ntw
        have htw : upd F2 tw_ (.tup [V.str "w", .ref xm2]) tw_ = some (.tup [V.str "w", .ref xm2]) := upd_same
        generalize upd F2 tw_ (.tup [V.str "w", .ref xm2]) = F3 at u3 htw ⊢
        refine ⟨(by show 1 ≤ sizeLine; decide), fun l4 nl4 => ?_⟩
        have u4 := same_new (o := .lst [V.ref tw_]) nl4
        have hl4 : upd F3 l4 (.lst [V.ref tw_]) l4 = some (.lst [V.ref tw_]) := upd_same
        generalize upd F3 l4 (.lst [V.ref tw_]) = F4 at u4 hl4 ⊢
        have k14 : Same F1 F4 := (s2.trans u3).trans u4
        have lts : ts.length = kvd.length := pr.length
        have lkv : kvd.length = ms.length := D.mv.len
        have l3 := ap.l3
        refine ⟨p, l4, _, _, rfl, rfl, k14 _ _ hp, hl4, by rw [List.length_map, List.length_singleton, sizeLine_eq]; omega, fun l5 nl5 => ?_⟩
        have u5 := same_new (o := .lst (ts.map V.ref ++ [V.ref tw_])) nl5
        have hl5 : upd F4 l5 (.lst (ts.map V.ref ++ [V.ref tw_])) l5 = some (.lst (ts.map V.ref ++ [V.ref tw_])) := upd_same
        generalize upd F4 l5 (.lst (ts.map V.ref ++ [V.ref tw_])) = F5 at u5 hl5 ⊢
        have k15 : Same F1 F5 := k14.trans u5
        have wnew : ("w" : Str) ∉ ms.map (·.1) := fun z => w_new (ap.mem _ z)
        have ndw : ((kvd ++ [((Sum.inr "w" : Key), V.ref xm2)]).map (·.1)).Nodup := by
          rw [List.map_append, List.nodup_append]
          refine ⟨ndk, by simp, fun a ha b hb e => ?_⟩
          rw [List.map_singleton, List.mem_singleton] at hb
          rw [D.mv.keys] at ha
          obtain ⟨x, hx, ex⟩ := List.mem_map.mp ha
          rw [e, hb] at ex
          exact wnew (Sum.inr.inj ex ▸ hx)
        have pw : Paired (fun q (kv : Key × V) => F5 q = some (.tup [kV kv.1, kv.2])) (ts ++ [tw_]) (kvd ++ [((Sum.inr "w" : Key), V.ref xm2)]) := (pr.mono (fun q kv e => k15 _ _ e)).snoc (u5 _ _ (u4 _ _ htw))
        refine ⟨l5, ts ++ [tw_], kvd ++ [((Sum.inr "w" : Key), V.ref xm2)], rfl, SqL.of (by rw [List.map_append]; exact hl5), pw.mono (fun q kv e => SqT.of e), fun wd nwd => ?_⟩
        rw [show mergeK [] (kvd ++ [((Sum.inr "w" : Key), V.ref xm2)]) = kvd ++ [((Sum.inr "w" : Key), V.ref xm2)] from mergeK_new _ [] ndw]
        have u6 := same_new (o := .dK (kvd ++ [((Sum.inr "w" : Key), V.ref xm2)])) nwd
        have hwd : upd F5 wd (.dK (kvd ++ [((Sum.inr "w" : Key), V.ref xm2)])) wd = some (.dK (kvd ++ [((Sum.inr "w" : Key), V.ref xm2)])) := upd_same
        generalize upd F5 wd (.dK (kvd ++ [((Sum.inr "w" : Key), V.ref xm2)])) = F6 at u6 hwd ⊢
        have s26 : Same F2 F6 := ((u3.trans u4).trans u5).trans u6
        have SF6 : Same H F6 := fun b o e => s26 _ _ (s2 _ _ (k1 _ _ (S24 _ _ e)))
        have mgW : MovesGiven K F6 (.ref wd) (ms ++ [(("w" : Str), ((2, ((1 : Int) : Rat), ((0 : Int) : Rat), ((5 : Int) : Rat)) : Mvd))]) := .inr ⟨wd, _, rfl, hwd, MvsAt.snoc (hm2.same s26) (D.mv.same SF6), by rw [List.length_append, List.length_singleton]; omega, by
          rw [List.map_append, List.nodup_append]
          exact ⟨D.nd, by simp, fun a ha b hb e => by
            rw [List.map_singleton, List.mem_singleton] at hb
            rw [e, hb] at ha
            exact wnew ha⟩, fun n hn => by
          rw [List.map_append] at hn
          rcases List.mem_append.mp hn with h | h
          · exact nm n h
          · rw [List.map_singleton, List.mem_singleton] at h
            rw [h]
            exact NameS.of (by decide +kernel)⟩
        have lW : (ms ++ [(("w" : Str), ((2, ((1 : Int) : Rat), ((0 : Int) : Rat), ((5 : Int) : Rat)) : Mvd))]).length = ms.length + 1 := by rw [List.length_append, List.length_singleton]
        generalize (ms ++ [(("w" : Str), ((2, ((1 : Int) : Rat), ((0 : Int) : Rat), ((5 : Int) : Rat)) : Mvd))]) = msW at mgW lW
        have lm' : ms'.length = ms.length := ap.so.1.length_eq
        refine ⟨_, rfl, _, rfl, du, _, _, _, rfl, rfl, SqL.of (SF6 _ _ D.du), rfl, _, rfl, du, _, _, _, rfl, rfl, SqL.of (SF6 _ _ D.du), rfl, _, rfl, du, _, _, _, rfl, rfl, SqL.of (SF6 _ _ D.du), rfl, _, rfl, rfl, rfl, fun x7 d7 hx7 hd7 ne7 => ?_⟩
        change spRuleI K [.ref x7, .str g, .str a, .ref t, .ref wd] _ _ E0
        refine rule_when TM hx7 hd7 ap.ng ap.na (whD.same SF6) ap.rok D.l8 mgW fun F7 m7 t7 so7 r7 => ⟨rfl, ?_⟩
        refine own_eq Z.U (ru0.same (SF6.trans t7)) r7 fun F8 t8 => ⟨_, rfl, ?_⟩
        rw [ruleEq_m (mvEq_len (by rw [so7.1.length_eq]; omega))]
        refine iteF ?_
        have SF8 : Same H F8 := (SF6.trans t7).trans t8
        refine ⟨_, rfl, s0, dx, _, rfl, SF8 _ _ es, rfl, _, rfl, rfl, chg TM (ru0.same SF8) l64' nd' nm' (by decide +kernel) (by show 1 < 64; decide) rfl rfl (fun tw h => ⟨tw, rfl, h.when⟩) (fun md _ => mgW.same (t7.trans t8)) ap.ng ap.na ap.rok D.l8 fun x9 F9 m9 t9 so9 r9 => ?_⟩
        refine ⟨_, rfl, own_eq Z.U r9 (ru0.same (SF8.trans t9)) fun F10 t10 => ⟨_, rfl, ?_⟩⟩
        rw [ruleEq_m (mvEq_len (by rw [so9.1.length_eq]; omega))]
        refine iteF ?_
        have SF10 : Same H F10 := (SF8.trans t9).trans t10
        refine ⟨_, rfl, s0, dx, _, rfl, SF10 _ _ es, rfl, rfl, chg TM (ru0.same SF10) l64' nd' nm' (by decide +kernel) (by show 1 < 64; decide) rfl rfl (fun tw h => ⟨tw, rfl, h.when⟩) (fun md _ => MovesGiven.non) ap.ng ap.na ap.rok D.l8 fun x11 F11 m11 t11 so11 r11 => ?_⟩
        have SF11 : Same H F11 := SF10.trans t11
        refine ⟨_, rfl, du, _, _, _, rfl, rfl, SqL.of (SF11 _ _ D.du), rfl, _, rfl, du, _, _, _, rfl, rfl, SqL.of (SF11 _ _ D.du), rfl, _, rfl, du, _, _, _, rfl, rfl, SqL.of (SF11 _ _ D.du), rfl, rfl, rfl, fun x12 d12 hx12 hd12 ne12 => ?_⟩
        change spRuleI K [.ref x12, .str g, .str a, .ref t, .non] _ _ E0
        refine rule_when TM hx12 hd12 ap.ng ap.na (whD.same SF11) ap.rok D.l8 MovesGiven.non fun F12 m12 t12 so12 r12 => ⟨rfl, ?_⟩
        refine own_eq Z.U (r11.same t12) r12 fun F13 t13 => ?_
        have e11 : m11 = [] := List.perm_nil.mp so11.1
        have e12 : m12 = [] := List.perm_nil.mp so12.1
        rw [ruleEq_yes (by rw [e12]; exact List.nodup_nil) (by rw [e11, e12])]
        refine ⟨_, rfl, iteT ?_⟩
        have SF13 : Same H F13 := (SF11.trans t12).trans t13
        refine ⟨_, rfl, _, rfl, du, _, rfl, .inl ⟨SqL.of (SF13 _ _ D.du), fun l14 n14 => ?_⟩⟩
        have u14 := same_new (o := .tup [V.str g, .str a, .ref t, .ref dm]) n14
        have h14 : upd F13 l14 (.tup [V.str g, .str a, .ref t, .ref dm]) l14 = some (.tup [V.str g, .str a, .ref t, .ref dm]) := upd_same
        exact ⟨s0, dx, _, .type "tuple", rfl, u14 _ _ (SF13 _ _ es), .base (.tup h14), Z.nft, s0, .ref l14, g, a, rows, ms', rfl, ru0.same (SF13.trans u14), .inl ⟨⟨.type "tuple", .base (.tup h14), Z.nt⟩, ⟨_, rfl, k _ (SF13.trans u14)⟩⟩⟩
end
end K18
set_option maxHeartbeats 2000000
/-! list(d.items()), where d may be walked over at the same time. -/
namespace GL
open PySem PySem.Spec PyProof.Rows L2 LiI
section
variable {X : Cx} {e : Expr} {te : TE} {p apos cpos pos : Pos}
def rItemsR : V → Hp → VK → Prop := fun x H Q => ∃ (d : Addr) (kvs : List (Key × V)), x = .ref d ∧ Rd H d (.dK kvs) ∧
  ∀ (H' : Hp) (p : Addr) (ts : List Addr), (∀ b o, H b = some o → H' b = some o) → H p = none → (∀ t ∈ ts, H t = none) → p ∉ ts → H' p = some (.lst (ts.map V.ref)) → Paired (fun (t : Addr) (q : Key × V) => H' t = some (.tup [kV q.1, q.2])) ts kvs → Q (.ref p) H'
theorem pe_listItemsR (hc : X.calm = true) (he : PE X e te) (hg : Gl X "list") (hm : X.mg "list" = none) (hv : bootBuiltins "list" = some (.type "list")) (hbase : attributeBase e "items" X.env (eval e X.env) = eval e X.env := by rfl) (hline : (apos.endLine == cpos.line) = true := by rfl)
    (hs : starEach [.Call (.Attribute e "items" apos) [] [] cpos] X.env = (false, eval (.Call (.Attribute e "items" apos) [] [] cpos) X.env) :: starEach [] X.env := by rfl) :
    PE X (.Call (.Name "list" p) [.Call (.Attribute e "items" apos) [] [] cpos] [] pos) (fun σ H Q => te σ H fun x H1 => rItemsR x H1 Q) := by
  refine ⟨fun pins s σ H Q I hq => ?_⟩
  refine wpAny_Call_Name_kw (ld_blt I hg hm hv ?_)
  refine PyProof.Rows.callWith_type1 ?_ hs rfl
  rw [hs]
  show wpAny _ _ (spliced ((false, eval (.Call (.Attribute e "items" apos) [] [] cpos) X.env) :: backTo pos (starEach [] X.env))) _ _ s
  refine Calls.spliced_cons ?_
  refine wpAny_Call_method (T := "dict") (id := "dict.items") hbase rfl hline PySem.F.plainAttrs_dict PySem.F.slot_dict_items PySem.F.type_dict_items (thn (he.run pins s σ H _ I hq) fun u s1 ⟨x, H1, I1, rx, d, kvs, ex, hd, q⟩ => ?_)
  subst ex
  obtain rfl : u = Value.ref d := rx
  obtain ⟨hz, hs0, vs, kv, hdo⟩ := Rd.ok hd I1.hok
  obtain ⟨ep, hat⟩ := hdo.dictAt
  have lk : kvs.length = vs.length := Paired.length kv
  have I2 : Inv X pins σ H1 { s1 with heap := s1.heap.push { cls := .type "dict_items", data := .fields #[.ref d] } } := I1.kept (t' := s1.toks) fun b ob q => Heap.get?_push_of_some _ q
  refine ⟨hdo.typeIs, hdo.mapOf.noDict, ?_⟩
  show wpAny _ _ (callWith cpos (.builtin "dict.items") [.ref d] [] []) _ X.xe s1
  refine method_meetsIn PySem.F.slot_dict_items PySem.F.entry_dict_items rfl (PySem.evalArgs_none ⟨rfl, hdo.typeIs, PySem.F.args_dict_items_1 _, _, meets_dict_items (mixKind X.prog X.w) d hs0, ⟨vs, hdo⟩, ?_⟩)
  refine Calls.spliced_nil ?_
  refine PySem.W.kdx_call (knd := mixKind X.prog X.w) (kvs := vs) (ep := ep) (I1.ok.hd hc) ⟨_, Heap.get?_push_size _ rfl, rfl, rfl⟩ (hat.push _) (by omega) fun h' tk acc c as hk hS hl hG hacc => ?_
  obtain ⟨H', k1, k2, k3, k4, k5, k6, J⟩ := items_laid (tk := tk) I2 hz kv hk hS hl hG hacc
  exact ⟨.ref _, H', J, rfl, q H' _ as k1 k2 k3 k4 k5 k6⟩
end
end GL
set_option maxHeartbeats 8000000
namespace K18
open PySem PySem.Spec PyProof.Rows L2 GL StX
abbrev sNear : Stmt := tp 65
section
variable {P : Program} {w : World} {K : PySem.W.Frag} {mg : Str → Option Value} {base : Heap}
structure NearF (P : Program) (w : World) (K : PySem.W.Frag) (mg : Str → Option Value) (base : Heap) : Prop where
  Z : MkU P w K mg base
  T : Free mg
  add : ∃ f, OwnBin K (aR K) .Add f ∧ FnR P w K mg base CX0 5 f (spBin K rAdd fun _ _ => True)
  gDiv : PropX P w K mg base (aM K) "divisor" (fun vs H Q _ => ∃ (s : Addr) (d : Int) (u lo hi : Rat), vs = [.ref s] ∧ MovAt K H s d u lo hi ∧ Q (.int d) H)
  gPlus : PropX P w K mg base (aM K) "plus" (spMGet K fun u _ _ => u)
  gLow : PropX P w K mg base (aM K) "low" (spMGet K fun _ lo _ => lo)
  gHigh : PropX P w K mg base (aM K) "high" (spMGet K fun _ _ hi => hi)
theorem rAdd_one (q : Rat) : rAdd q ((1 : Int) : Rat) ≠ q := by
  have e : rAdd q ((1 : Int) : Rat) = q + 1 := by
    unfold rAdd
    rw [show ((1 : Int) : Rat) = 1 from rfl, Rat.add_def', ← Rat.divInt_ofNat, Int.natCast_mul]
  rw [e]
  intro z
  have z2 : -q + (q + 1) = -q + q := by rw [z]
  rw [← Rat.add_assoc, Rat.neg_add_cancel, Rat.zero_add] at z2
  exact absurd z2 (by decide)
/-- the side that the law puts in a side's place -/
theorem side_next {sd : Str} (h : sideB sd = true) : ∃ sd', valV [((Sum.inr "from" : Key), V.str "above"), (Sum.inr "above", V.str "to"), (Sum.inr "to", V.str "below"), (Sum.inr "below", V.str "from")] (Sum.inr sd) = some (.str sd') ∧ sideB sd' = true ∧ sd' ≠ sd := by
  rcases sideB_cases h with e | e | e | e <;> subst e
  · exact ⟨"above", valV_pos rfl, by decide +kernel, by decide +kernel⟩
  · exact ⟨"to", by rw [valV_neg (fun z => nd_fa (Sum.inr.inj z))]; exact valV_pos rfl, by decide +kernel, by decide +kernel⟩
  · exact ⟨"below", by rw [valV_neg (fun z => nd_ft (Sum.inr.inj z)), valV_neg (fun z => nd_at (Sum.inr.inj z))]; exact valV_pos rfl, by decide +kernel, by decide +kernel⟩
  · exact ⟨"from", by rw [valV_neg (fun z => nd_fb (Sum.inr.inj z)), valV_neg (fun z => nd_ab (Sum.inr.inj z)), valV_neg (fun z => nd_tb (Sum.inr.inj z))]; exact valV_pos rfl, by decide +kernel, by decide +kernel⟩
theorem cat_step {H : Hp} {a b : Addr} {xs ys : List V} {Q : VK} (ha : H a = some (.tup xs)) (hb : H b = some (.tup ys)) (l : xs.length + ys.length ≤ sizeLine) (k : ∀ p H', Same H H' → H' p = some (.tup (xs ++ ys)) → Q (.ref p) H') : L2.rCatA K (.ref a) (.ref b) H Q := by
  refine ⟨a, b, xs, ys, rfl, rfl, SqT.of ha, SqT.of hb, l, fun e => ?_, fun _ e => ?_, fun _ _ p np => ?_⟩
  · exact k b H (fun _ _ e => e) (by rw [e]; exact hb)
  · exact k a H (fun _ _ e => e) (by rw [e, List.append_nil]; exact ha)
  · exact k p _ (same_new np) upd_same
theorem CondsAt.set {H : Hp} {ys : List V} {rows : List Row} {i : Nat} {tt : Addr} {r' : Row} (h : CondsAt K H ys rows) (hc : CondR K H tt r') : CondsAt K H (ys.set i (.ref tt)) (rows.set i r') := by
  refine ⟨by rw [List.length_set, List.length_set]; exact h.1, fun j v r e1 e2 => ?_⟩
  rw [List.getElem?_set] at e1 e2
  by_cases c : i = j
  · rw [if_pos c] at e1 e2
    split at e1
    · split at e2
      · obtain rfl := Option.some.inj e1
        obtain rfl := Option.some.inj e2
        obtain ⟨p, e, hp⟩ := hc
        exact ⟨tt, .ref p, rfl, e, .inr ⟨p, rfl, hp⟩⟩
      · cases e2
    · cases e1
  · rw [if_neg c] at e1 e2
    exact h.2 j v r e1 e2
theorem take_drop_set {α : Type} {l : List α} {i : Nat} {x : α} (h : i < l.length) : l.take i ++ [x] ++ l.drop (i + 1) = l.set i x := by
  rw [List.set_eq_take_append_cons_drop, if_pos h, List.append_assoc]
  rfl
theorem MvsAt.put {H : Hp} {n : Str} {m' : Mvd} {x : Addr} (hx : MovD K H x m') : ∀ {kvs : List (Key × V)} {ms : List (Str × Mvd)}, MvsAt K H kvs ms → MvsAt K H (kvs.map fun kv => if kv.1 = Sum.inr n then (kv.1, V.ref x) else kv) (ms.map fun y => if y.1 = n then (y.1, m') else y)
  | [], [], _ => trivial
  | (k, v) :: r, (n', y) :: t, ⟨e, h, tl⟩ => by
    subst e
    have ih := MvsAt.put (n := n) hx tl
    rw [List.map_cons, List.map_cons]
    by_cases c : n' = n
    · subst c
      rw [if_pos rfl, if_pos rfl]
      exact ⟨rfl, ⟨x, rfl, hx⟩, ih⟩
    · rw [if_neg (fun z => c (Sum.inr.inj z)), if_neg c]
      exact ⟨rfl, h, ih⟩
  | [], _ :: _, h => h.elim
  | _ :: _, [], h => h.elim
theorem map_names {n : Str} {m' : Mvd} (ms : List (Str × Mvd)) : (ms.map fun y => if y.1 = n then (y.1, m') else y).map (·.1) = ms.map (·.1) := by
  rw [List.map_map]
  refine List.map_congr_left fun y _ => ?_
  show (if y.1 = n then (y.1, m') else y).1 = y.1
  split <;> rfl
theorem MvsAt.get {H : Hp} : ∀ {kvs : List (Key × V)} {ms : List (Str × Mvd)} {i : Nat} {k : Key} {v : V}, MvsAt K H kvs ms → kvs[i]? = some (k, v) → ∃ n x p, k = Sum.inr n ∧ ms[i]? = some (n, x) ∧ v = .ref p ∧ MovD K H p x
  | [], [], _, _, _, _, e => by cases e
  | (_, _) :: _, (_, _) :: _, 0, _, _, ⟨e, ⟨p, ev, h⟩, _⟩, z => by
    cases z
    exact ⟨_, _, p, e, rfl, ev, h⟩
  | (_, _) :: _, (_, _) :: _, i + 1, _, _, ⟨_, _, t⟩, z => MvsAt.get (i := i) t z
  | [], _ :: _, _, _, _, h, _ => h.elim
  | _ :: _, [], _, _, _, h, _ => h.elim
theorem mergeK_put {kvs : List (Key × V)} {k : Key} {v : V} (nd : (kvs.map (·.1)).Nodup) (h : k ∈ kvs.map (·.1)) : mergeK [] (kvs ++ [(k, v)]) = kvs.map fun kv => if kv.1 = k then (kv.1, v) else kv := by
  have e : mergeK [] (kvs ++ [(k, v)]) = putK (mergeK [] kvs) k v := by
    unfold mergeK
    rw [List.foldl_append]
    rfl
  rw [e, mergeK_new _ [] nd, List.nil_append]
  unfold putK
  rw [if_pos]
  obtain ⟨x, hx, ex⟩ := List.mem_map.mp h
  exact List.any_eq_true.mpr ⟨x, hx, decide_eq_true ex⟩
def spNear (K : PySem.W.Frag) : Sp := fun vs H Q _ => ∃ (s du t dm : Addr) (g a : Str) (rows : List Row) (ms ms' : List (Str × Mvd)) (kvd : List (Key × V)), vs = [.ref s, .ref du] ∧ Apart K H s du t dm g a rows ms ms' kvd ∧ ∀ H', Same H H' → Q (.bl true) H'
abbrev nNear : List Str := ["_law_rule", "_law_due", "_law_sides", "_law_at", "_law_claim", "_law_ahead", "_law_behind", "_law_other", "_law_name_now", "_law_shift_here", "_law_other_move"]
theorem scNear : FnScope nNear ["_law_rule", "_law_due"] (defScope sNear) := ⟨rfl, rfl, rfl, by decide +kernel, rfl, by decide +kernel, by decide +kernel⟩
theorem ok_near {f : Addr} {fd : FuncData} (F : Fun K "_law_near_unlike" "_law_near_unlike" sNear f fd) (Y : NearF P w K mg base) : FnOk P w K mg base CX0 9 f fd ["_law_rule", "_law_due"] (spNear K) := by
  have Z := Y.Z
  obtain ⟨fC, mC, GC_⟩ := Z.ch
  obtain ⟨fU, fdU, gU, MU, GU, KU⟩ := Z.mU
  obtain ⟨fE, oE, GE⟩ := Z.eq
  obtain ⟨fM, fdM, MM, GM, bM⟩ := Z.M.mM
  obtain ⟨fA, oA, GA⟩ := Y.add
  obtain ⟨p1, g1, fd1, P1, G1, b1⟩ := Y.gDiv
  obtain ⟨p2, g2, fd2, P2, G2, b2⟩ := Y.gPlus
  obtain ⟨p3, g3, fd3, P3, G3, b3⟩ := Y.gLow
  obtain ⟨p4, g4, fd4, P4, G4, b4⟩ := Y.gHigh
  have TM := Z.M.T
  have TR := Z.G.T
  have U := Z.U.U
  have N := Z.U.N
  have GCh := K18.FnK.ground GC_
  have G0 := K18.FnOk.ground GU
  refine F.ok scNear (fun vs H Q E h => ?_) (fun cdv A outer s H vs Q E hr h => ?_)
  · obtain ⟨s, du, t, dm, g, a, rows, ms, ms', kvd, rfl, _⟩ := h
    rfl
  · obtain ⟨s0, du, t, dm, g, a, rows, ms, ms', kvd, rfl, ap, k⟩ := h
    have hu := hr.units
    have hu1 : (A.deeper (envOfC "_law_near_unlike" (defScope sNear) s.heap.objs.size f cdv)).units + 1 < cLine := by omega
    have hr8 := hr.mono (show 7 ≤ 8 by decide)
    have r7 := hr.mono (show 7 ≤ 8 by decide)
    have r6 := hr.mono (show 6 ≤ 8 by decide)
    have r5 := hr.mono (show 5 ≤ 8 by decide)
    have r2 := hr.mono (show 2 ≤ 8 by decide)
    refine ⟨_, (pss_cons (ps_set (i := 2) scNear.nd rfl (Or.inl rfl) (pe_disp (pps_cons pe_str pe_str (pps_cons pe_str pe_str (pps_cons pe_str pe_str (pps_cons pe_str pe_str pps_nil)))) (by rfl) (by rfl) (fun z => by cases z) (by decide)))
      (pss_cut (ps_for PassesOwn.never rfl (pi_range1 (by rfl) Y.T.range (pa_cons (pe_callB call_len_seq (by rfl) N.len PySem.boot_len (pa_cons (pe_ix ix_list (pv 1) pe_int (fun _ _ => rfl)) pa_nil)) pa_nil)) (pg_name (i := 3) scNear.nd rfl (Or.inl rfl)) (pss_cons (ps_par3 (i := 4) (j := 5) (l := 6) (by rfl) scNear.nd rfl rfl rfl (by decide) (by decide) (by decide) rfl rfl rfl (pa_cons (pe_ix ix_tup (pe_ix ix_list (pv 1) pe_int (fun _ _ => rfl)) (pv 3) (fun _ _ => rfl)) (pa_cons (pe_slice sl_tup (pe_ix ix_list (pv 1) pe_int (fun _ _ => rfl)) po_none (po_some (pv 3))) (pa_cons (pe_slice sl_tup (pe_ix ix_list (pv 1) pe_int (fun _ _ => rfl)) (po_some (pe_op op_add (pv 3) pe_int)) po_none) pa_nil))) (by rfl)) (pss_one (ps_for PassesOwn.never rfl (pi_list (pe_lst (pa_cons (pe_tup (pa_cons (pe_ix ix_tup (pv 4) pe_int (fun _ _ => rfl)) (pa_cons (pe_ix ix_tup (pv 4) pe_int (fun _ _ => rfl)) (pa_cons (pe_op (op_own (.inl rfl) oA GA r5 pass0) (pe_ix ix_tup (pv 4) pe_int (fun _ _ => rfl)) pe_int) pa_nil)))) (pa_cons (pe_tup (pa_cons (pe_ix ix_tup (pv 4) pe_int (fun _ _ => rfl)) (pa_cons (pe_dget hu1 (pv 2) (pe_ix ix_tup (pv 4) pe_int (fun _ _ => rfl)) (fun _ _ => rfl)) (pa_cons (pe_ix ix_tup (pv 4) pe_int (fun _ _ => rfl)) pa_nil)))) pa_nil)))) (pg_name (i := 7) scNear.nd rfl (Or.inl rfl)) (pss_one (ps_if (pt_cmpR (op_eqO oE GE r5 pass0) (pv 0) (pe_makeK (ks := ["when", "moves"]) MU G0 r6 rfl U.gU KU pass0 (pa_cons (pe_ix ix_list (pv 1) pe_int (fun _ _ => rfl)) (pa_cons (pe_ix ix_list (pv 1) pe_int (fun _ _ => rfl)) pa_nil)) (pk_cons (pe_op op_catA (pe_op op_catA (pv 5) (pe_tup (pa_cons (pv 7) pa_nil))) (pv 6)) (pk_cons (pe_ix ix_list (pv 1) pe_int (fun _ _ => rfl)) pk_nil))) (nomark _)) (pss_one (ps_ret pe_bl)) pss_nil))))))
      (pss_cons (ps_lock (ps_for PassesOwn.never rfl (pi_keys (pe_ix ix_list (pv 1) pe_int (fun _ _ => rfl))) (pg_name (i := 8) scNear.nd rfl (Or.inl rfl)) (pss_cons (ps_set (i := 9) scNear.nd rfl (Or.inl rfl) (pe_dget hu1 (pe_ix ix_list (pv 1) pe_int (fun _ _ => rfl)) (pv 8) (fun _ _ => rfl))) (pss_cons (ps_set (i := 10) scNear.nd rfl (Or.inl rfl) (pe_make MM GM r7 rfl TM.gM bM .nil pass0 (pa_cons (pe_prop (pv 9) TM.cl P1 G1 r2 b1 .nil pass0 rfl) (pa_cons (pe_op (op_own (.inl rfl) oA GA r5 pass0) (pe_prop (pv 9) TM.cl P2 G2 r2 b2 .nil pass0 rfl) pe_int) (pa_cons (pe_prop (pv 9) TM.cl P3 G3 r2 b3 .nil pass0 rfl) (pa_cons (pe_prop (pv 9) TM.cl P4 G4 r2 b4 .nil pass0 rfl) pa_nil)))))) (pss_one (ps_if (pt_cmpR (op_eqO oE GE r5 pass0) (pv 0) (pe_methK (ks := ["moves"]) (pv 0) U.cl mC GCh hr8 pass0 (pk_cons (pe_callTy (call_dictP rfl) (by rfl) N.dict (by decide +kernel) (pa_cons (pe_op op_cat (pe_listItemsR rfl (pe_ix ix_list (pv 1) pe_int (fun _ _ => rfl)) (by rfl) N.list (by decide +kernel)) (pe_lst (pa_cons (pe_tup (pa_cons (pv 8) (pa_cons (pv 10) pa_nil))) pa_nil))) pa_nil)) pk_nil) (by decide) (by decide) (by show 1 ≤ sizeLine; decide)) (nomark _)) (pss_one (ps_ret pe_bl)) pss_nil))))))
      (pss_one (ps_ret pe_bl))))), ?_⟩
    have D := ap.D
    have toH : Same (off H dm) H := fun b o e => (off_some e).2
    have ru0 : RuleM K H s0 g a rows ms' := ap.ru.same toH
    have nd' : (ms'.map (·.1)).Nodup := SortM.nd ap.so D.nd
    have l64' : ms'.length < 64 := by rw [ap.so.1.length_eq]; exact D.l64
    have mem' : ∀ n ∈ ms'.map (·.1), n ∈ names3 := fun n hn => ap.mem n ((ap.so.1.map (·.1)).mem_iff.mp hn)
    have nm' := fun n hn => names_nm n (mem' n hn)
    have nm := fun n hn => names_nm n (ap.mem n hn)
    obtain ⟨kvs, ⟨dx, tw, md, es, rt⟩, mm⟩ := id ru0
    have mgD : MovesGiven K H (.ref dm) ms := .inr ⟨dm, kvd, rfl, D.dm, D.mv, D.l64, D.nd, nm⟩
    obtain ⟨ys, et, ry⟩ := id D.t
    have ly : ys.length = rows.length := ry.1
    have l8 := D.l8
    have sz1 : Sz 4000 ((1 : Int) : Rat) := Sz.mono (n := 30) ⟨by decide +kernel, by decide +kernel⟩ (by decide)
    intro de nde
    obtain ⟨kd, ekd⟩ : ∃ kd : List (Key × V), kd = [((Sum.inr "from" : Key), V.str "above"), (Sum.inr "above", V.str "to"), (Sum.inr "to", V.str "below"), (Sum.inr "below", V.str "from")] := ⟨_, rfl⟩
    refine ⟨upd_same, kd, by rw [ekd]; rfl, by rw [ekd]; show 4 ≤ 15; decide, ?_⟩
    have em : mergeK [] kd = kd := by
      rw [ekd]
      simp [mergeK, putK, nd_fa, nd_ft, nd_fb, nd_at, nd_ab, nd_tb]
    rw [em, upd_upd]
    have u0 := same_new (o := .dK kd) nde
    have hde : upd H de (.dK kd) de = some (.dK kd) := upd_same
    generalize upd H de (.dK kd) = H1 at u0 hde ⊢
    refine ⟨fun z G => Same H1 G ∧ ∃ v3 v4 v5 v6 v7, z = [some (.ref s0), some (.ref du), some (.ref de), v3, v4, v5, v6, v7, none, none, none], ?_, ?_⟩
    · refine ⟨_, rfl, du, _, _, _, rfl, rfl, SqL.of (u0 _ _ D.du), rfl, t, ys, rfl, .inr (SqT.of (u0 _ _ et)), ?_⟩
      refine ⟨(ys.length : Nat), rfl, by omega, by omega, ?_⟩
      refine for_range (lo := 0) (n := ((ys.length : Nat) : Int).toNat) (fun i z G => Same H1 G ∧ ∃ v3 v4 v5 v6 v7, z = [some (.ref s0), some (.ref du), some (.ref de), v3, v4, v5, v6, v7, none, none, none]) ⟨fun _ _ e => e, none, none, none, none, none, rfl⟩ ?_ (fun z G h => h)
      rintro i z G hi ⟨sG, v3, v4, v5, v6, v7, rfl⟩
      have hi' : i < ys.length := by rw [Int.toNat_natCast] at hi; exact hi
      have il : i < rows.length := by rw [← ly]; exact hi'
      obtain ⟨r, er⟩ : ∃ r, r = rows[i] := ⟨_, rfl⟩
      have hr_ : rows[i]? = some r := by rw [er]; exact List.getElem?_eq_getElem il
      have rm : r ∈ rows := List.mem_of_getElem? hr_
      obtain ⟨c, pq, ev, hc, hpq⟩ := ry.2 i ys[i] r (List.getElem?_eq_getElem hi') hr_
      have hyi : ys[i]? = some (.ref c) := by rw [List.getElem?_eq_getElem hi', ev]
      rw [show (0 : Int) + (i : Int) = (i : Int) from Int.zero_add _]
      have SG : Same H G := u0.trans sG
      have hdu : ∀ F, Same G F → SqL K F du [.str g, .str a, .ref t, .ref dm] := fun F f => SqL.of (f _ _ (SG _ _ D.du))
      have htu : ∀ F, Same G F → SqT K F t ys := fun F f => SqT.of (f _ _ (SG _ _ et))
      have hcu : ∀ F, Same G F → SqT K F c [.str r.1, .str r.2.1, .ref pq] := fun F f => SqT.of (f _ _ (SG _ _ hc))
      have rf : Same G G := fun _ _ e => e
      refine ⟨_, rfl, du, _, _, _, rfl, rfl, hdu G rf, rfl, _, rfl, t, _, _, _, rfl, rfl, htu G rf, atI_nat hyi, ?_⟩
      refine ⟨_, rfl, du, _, _, _, rfl, rfl, hdu G rf, rfl, _, rfl, _, rfl, t, ys, rfl, htu G rf, ?_, fun ta nta => ?_⟩
      · rw [HT.sIx_nat]
        omega
      have ua := same_new (o := .tup (cutV ys none (some (i : Int)))) nta
      have ca : cutV ys none (some (i : Int)) = ys.take i := by
        unfold cutV
        rw [HT.sIx_nat, HT.sIx_none, List.drop_zero]
        congr 1
        omega
      rw [ca] at ua ⊢
      have hta : upd G ta (.tup (ys.take i)) ta = some (.tup (ys.take i)) := upd_same
      generalize upd G ta (.tup (ys.take i)) = Ga at ua hta ⊢
      refine ⟨_, rfl, du, _, _, _, rfl, rfl, hdu Ga ua, rfl, _, rfl, _, _, rfl, rfl, _, rfl, t, ys, rfl, htu Ga ua, ?_, fun tb ntb => ?_⟩
      · rw [show (i : Int) + 1 = ((i + 1 : Nat) : Int) from by omega, HT.sIx_nat]
        omega
      have ub := same_new (o := .tup (cutV ys (some ((i : Int) + 1)) none)) ntb
      have cb : cutV ys (some ((i : Int) + 1)) none = ys.drop (i + 1) := by
        unfold cutV
        rw [show (i : Int) + 1 = ((i + 1 : Nat) : Int) from by omega, HT.sIx_nat, HT.sIx_none, show min (i + 1) ys.length = i + 1 from by omega]
        exact List.take_of_length_le (by rw [List.length_drop]; exact Nat.le_refl _)
      rw [cb] at ub ⊢
      have htb : upd Ga tb (.tup (ys.drop (i + 1))) tb = some (.tup (ys.drop (i + 1))) := upd_same
      generalize upd Ga tb (.tup (ys.drop (i + 1))) = Gb at ub htb ⊢
      have sb : Same G Gb := ua.trans ub
      refine ⟨_, _, _, rfl, ?_⟩
      obtain ⟨dpq, epq⟩ := id hpq
      obtain ⟨sd', look, sdok, sdne⟩ := side_next (ap.rok r rm).2
      rw [← ekd] at look
      refine ⟨_, rfl, c, _, _, _, rfl, rfl, hcu Gb sb, rfl, _, rfl, c, _, _, _, rfl, rfl, hcu Gb sb, rfl, _, rfl, c, _, _, _, rfl, rfl, hcu Gb sb, rfl, ?_⟩
      refine ⟨pq, dpq, _, rfl, sb _ _ (SG _ _ epq), .inr ⟨1, rfl⟩, pq, .int 1, r.2.2, ((1 : Int) : Rat), rfl, hpq.same (SG.trans sb), .inl ⟨1, rfl, rfl⟩, (ap.sz r rm).mono (by decide), sz1, trivial, fun pn Gc sc hpn => ?_⟩
      refine ⟨(by show 3 ≤ sizeLine; decide), fun t1 nt1 => ?_⟩
      have u1 := same_new (o := .tup [V.str r.1, .str r.2.1, .ref pn]) nt1
      have ht1 : upd Gc t1 (.tup [V.str r.1, .str r.2.1, .ref pn]) t1 = some (.tup [V.str r.1, .str r.2.1, .ref pn]) := upd_same
      generalize upd Gc t1 (.tup [V.str r.1, .str r.2.1, .ref pn]) = Gd at u1 ht1 ⊢
      have sd_ : Same G Gd := (sb.trans sc).trans u1
      refine ⟨_, rfl, c, _, _, _, rfl, rfl, hcu Gd sd_, rfl, _, rfl, _, rfl, c, _, _, _, rfl, rfl, hcu Gd sd_, rfl, de, .str sd', rfl, .inl ⟨kd, .inr r.2.1, .of (sd_ _ _ (sG _ _ hde)), rfl, look.symm⟩, _, rfl, c, _, _, _, rfl, rfl, hcu Gd sd_, rfl, (by show 3 ≤ sizeLine; decide), fun t2 nt2 => ?_⟩
      have u2 := same_new (o := .tup [V.str r.1, .str sd', .ref pq]) nt2
      have ht2 : upd Gd t2 (.tup [V.str r.1, .str sd', .ref pq]) t2 = some (.tup [V.str r.1, .str sd', .ref pq]) := upd_same
      generalize upd Gd t2 (.tup [V.str r.1, .str sd', .ref pq]) = Ge at u2 ht2 ⊢
      refine ⟨(by show 2 ≤ sizeLine; decide), fun l nl => ?_⟩
      have u3 := same_new (o := .lst [V.ref t1, .ref t2]) nl
      have hl : upd Ge l (.lst [V.ref t1, .ref t2]) l = some (.lst [V.ref t1, .ref t2]) := upd_same
      generalize upd Ge l (.lst [V.ref t1, .ref t2]) = Gf at u3 hl ⊢
      have sf : Same G Gf := (sd_.trans u2).trans u3
      have oth : ∀ v ∈ [V.ref t1, .ref t2], ∃ tt r', v = .ref tt ∧ CondR K Gf tt r' ∧ r' ≠ r ∧ r'.1 = r.1 ∧ sideB r'.2.1 = true := fun v hv => by
        simp only [List.mem_cons, List.not_mem_nil, or_false] at hv
        rcases hv with rfl | rfl
        · exact ⟨t1, (r.1, r.2.1, rAdd r.2.2 ((1 : Int) : Rat)), rfl, ⟨pn, u3 _ _ (u2 _ _ ht1), hpn.same ((u1.trans u2).trans u3)⟩, fun z => rAdd_one r.2.2 (congrArg (fun x : Row => x.2.2) z), rfl, (ap.rok r rm).2⟩
        · exact ⟨t2, (r.1, sd', r.2.2), rfl, ⟨pq, u3 _ _ ht2, hpq.same (SG.trans sf)⟩, fun z => sdne (congrArg (fun x : Row => x.2.1) z), rfl, sdok⟩
      have hta2 : Gf ta = some (.tup (ys.take i)) := u3 _ _ (u2 _ _ (u1 _ _ (sc _ _ (ub _ _ hta))))
      have htb2 : Gf tb = some (.tup (ys.drop (i + 1))) := u3 _ _ (u2 _ _ (u1 _ _ (sc _ _ htb)))
      refine ⟨l, rfl, ⟨_, SqL.of hl⟩, ?_⟩
      refine for_list (K := K) (a := l) (xs := [V.ref t1, .ref t2]) (fun j z G' => Same Gf G' ∧ ∃ v7, z = [some (.ref s0), some (.ref du), some (.ref de), some (.int (i : Int)), some (.ref c), some (.ref ta), some (.ref tb), v7, none, none, none]) ⟨fun _ _ e => e, v7, rfl⟩ (fun j z G' _ ⟨s, _⟩ => SqL.of (s _ _ hl)) ?_ ?_
      · rintro j y z G' hj ⟨s, w7, rfl⟩
        obtain ⟨tt, r', rfl, cond, rne, r1e, sok⟩ := oth y (List.mem_of_getElem? hj)
        have s' : Same G G' := sf.trans s
        refine ⟨_, rfl, _, rfl, du, _, _, _, rfl, rfl, hdu G' s', rfl, _, rfl, du, _, _, _, rfl, rfl, hdu G' s', rfl, _, rfl, _, rfl, (by show 1 ≤ sizeLine; decide), fun t3 nt3 => ?_⟩
        have u4 := same_new (o := .tup [V.ref tt]) nt3
        have ht3 : upd G' t3 (.tup [V.ref tt]) t3 = some (.tup [V.ref tt]) := upd_same
        generalize upd G' t3 (.tup [V.ref tt]) = F0 at u4 ht3 ⊢
        refine cat_step (u4 _ _ (s _ _ hta2)) ht3 (by rw [List.length_take, List.length_singleton, sizeLine_eq]; omega) fun w1 F1 f1 hw1 => ?_
        refine ⟨_, rfl, cat_step hw1 (f1 _ _ (u4 _ _ (s _ _ htb2))) (by rw [List.length_append, List.length_take, List.length_singleton, List.length_drop, sizeLine_eq]; omega) fun w2 F2 f2 hw2 => ?_⟩
        rw [take_drop_set hi'] at hw2
        have sF : Same Gf F2 := ((s.trans u4).trans f1).trans f2
        have SF : Same H F2 := SG.trans (sf.trans sF)
        refine ⟨_, rfl, du, _, _, _, rfl, rfl, hdu F2 (sf.trans sF), rfl, rfl, rfl, fun x dxx hx hd ne => ?_⟩
        change spRuleI K [.ref x, .str g, .str a, .ref w2, .ref dm] _ _ E0
        have wh : WhenAt K F2 w2 (rows.set i r') := ⟨_, _, .base (.tup hw2), kit_tuple, .inr (SqT.of hw2), (ry.conds.same SF).set (cond.same sF)⟩
        have okS : RowsOk (rows.set i r') := fun u hu => by
          rcases List.mem_or_eq_of_mem_set hu with h | h
          · exact ap.rok u h
          · rw [h, r1e]
            exact ⟨(ap.rok r rm).1, sok⟩
        have neS : rows ≠ rows.set i r' := fun z => rne (by
          have e : (rows.set i r')[i]? = some r' := by rw [List.getElem?_set, if_pos rfl, if_pos il]
          rw [← z, hr_] at e
          exact (Option.some.inj e).symm)
        refine rule_when TM hx hd ap.ng ap.na wh okS (by rw [List.length_set]; exact l8) (mgD.same SF) fun F3 m3 f3 so3 r3 => ⟨rfl, own_eq Z.U (ru0.same (SF.trans f3)) r3 fun F4 f4 => ⟨_, rfl, ?_⟩⟩
        rw [ruleEq_w neS]
        exact iteF ⟨(sF.trans f3).trans f4, _, rfl⟩
      · rintro z G' ⟨s, w7, rfl⟩
        exact ⟨(sG.trans sf).trans s, _, _, _, _, _, rfl⟩
    · rintro z G22 ⟨sG, v3, v4, v5, v6, v7, rfl⟩
      have SG : Same H G22 := u0.trans sG
      have hdm : G22 dm = some (.dK kvd) := SG _ _ D.dm
      have ndk : (kvd.map (·.1)).Nodup := by
        rw [D.mv.keys]
        exact List.Pairwise.map _ (fun a b h z => h (Sum.inr.inj z)) D.nd
      refine ⟨dm, _, hdm, trivial, fun od => ?_⟩
      have nd_ : ∀ b o, H b = some o → (∀ kvs, o ≠ .dK kvs) → b ≠ dm := fun b o e n z => by
        rw [z, D.dm] at e
        cases e
        exact n _ rfl
      have k1 : ∀ b o, H b = some o → b ≠ dm → upd G22 dm (.frz od (.dK kvd)) b = some o := fun b o e n => (upd_ne n).trans (SG _ _ e)
      have ruL : RuleM K (upd G22 dm (.frz od (.dK kvd))) s0 g a rows ms' := ap.ru.same fun b o e => k1 b o (off_some e).2 (off_some e).1
      have esL : upd G22 dm (.frz od (.dK kvd)) s0 = some (.ins (aRu K) dx [("_goal", .str g), ("_answer", .str a), ("_when", .ref tw), ("_moves", .ref md)]) := k1 _ _ es (nd_ _ _ es (fun _ z => by cases z))
      have mvL : MvsAt K (upd G22 dm (.frz od (.dK kvd))) kvd ms := D.mv.keep fun p m h => h.keep fun b C dx fs e => k1 _ _ e (nd_ _ _ e (fun _ z => by cases z))
      have duL : upd G22 dm (.frz od (.dK kvd)) du = some (.lst [.str g, .str a, .ref t, .ref dm]) := k1 _ _ D.du (nd_ _ _ D.du (fun _ z => by cases z))
      have dmL : upd G22 dm (.frz od (.dK kvd)) dm = some (.frz od (.dK kvd)) := upd_same
      refine ⟨_, rfl, du, _, _, _, rfl, rfl, SqL.of duL, rfl, dm, od, rfl, .inl ⟨kvd, dmL, ?_⟩⟩
      obtain ⟨HL, eL⟩ : ∃ X, X = upd G22 dm (.frz od (.dK kvd)) := ⟨_, rfl⟩
      rw [← eL] at ruL esL mvL duL dmL ⊢
      refine for_it walk_keys (fun j z G => Same HL G ∧ ∃ v8 v9 v10, z = [some (.ref s0), some (.ref du), some (.ref de), v3, v4, v5, v6, v7, v8, v9, v10]) ⟨fun _ _ e => e, none, none, none, rfl⟩ (fun j z G _ h => h.1 _ _ dmL) ?_ ?_
      · rintro j y z G G0 hj ⟨s, w8, w9, w10, rfl⟩ ⟨rfl, key, v, hk, rfl⟩
        obtain ⟨n, m, pm, rfl, hn, rfl, hmv⟩ := MvsAt.get mvL hk
        have nmem : (n, m) ∈ ms := List.mem_of_getElem? hn
        have mo := ap.mok _ nmem
        refine ⟨_, rfl, du, _, _, _, rfl, rfl, SqL.of (s _ _ duL), rfl, _, rfl, dm, .ref pm, rfl, .inl ⟨kvd, .inr n, .inr ⟨od, s _ _ dmL⟩, rfl, (valV_at ndk hk).symm⟩, ?_⟩
        have hm0 := hmv.same s
        obtain ⟨_, _, dxm, pa_, pb_, pc_, epm, _, _, _⟩ := id hm0
        refine ⟨_, rfl, pm, dxm, _, rfl, epm, pm, m.1, m.2.1, m.2.2.1, m.2.2.2, rfl, hm0, ?_⟩
        refine ⟨_, rfl, pm, dxm, _, rfl, epm, pm, m.1, m.2.1, m.2.2.1, m.2.2.2, rfl, hm0, fun pa hpa => ?_⟩
        obtain ⟨dpa, epa⟩ := id hpa
        refine ⟨pa, dpa, _, rfl, epa, .inr ⟨1, rfl⟩, pa, .int 1, m.2.1, ((1 : Int) : Rat), rfl, hpa, .inl ⟨1, rfl, rfl⟩, mo.u.mono (by decide), sz1, trivial, fun pn F1 f1 hpn => ?_⟩
        have hm1 := hm0.same f1
        refine ⟨_, rfl, pm, dxm, _, rfl, f1 _ _ epm, pm, m.1, m.2.1, m.2.2.1, m.2.2.2, rfl, hm1, fun pl hpl => ?_⟩
        refine ⟨_, rfl, pm, dxm, _, rfl, f1 _ _ epm, pm, m.1, m.2.1, m.2.2.1, m.2.2.2, rfl, hm1, fun ph hph => ?_⟩
        intro x dxx hx hd ne
        refine made_movR hx hd mo.d1 (.inr ⟨pn, rfl, hpn⟩) (.inr ⟨pl, rfl, hpl⟩) (.inr ⟨ph, rfl, hph⟩) (mo.lo.mono (by decide)) (mo.hi.mono (by decide)) mo.le fun F2 f2 hmx => ⟨rfl, ?_⟩
        have s2 : Same HL F2 := (s.trans f1).trans f2
        refine ⟨_, rfl, _, rfl, s0, dx, _, rfl, s2 _ _ esL, rfl, ?_⟩
        refine ⟨_, rfl, du, _, _, _, rfl, rfl, SqL.of (s2 _ _ duL), rfl, dm, kvd, rfl, .inr ⟨od, s2 _ _ dmL⟩, fun F3 p ts k3 np nts pts hp pr => ?_⟩
        refine ⟨_, rfl, _, rfl, (by show 2 ≤ sizeLine; decide), fun tq ntq => ?_⟩
        have u4 := same_new (o := .tup [kV (Sum.inr n), V.ref x]) ntq
        have htq : upd F3 tq (.tup [kV (Sum.inr n), V.ref x]) tq = some (.tup [kV (Sum.inr n), V.ref x]) := upd_same
        generalize upd F3 tq (.tup [kV (Sum.inr n), V.ref x]) = F4 at u4 htq ⊢
        refine ⟨(by show 1 ≤ sizeLine; decide), fun l4 nl4 => ?_⟩
        have u5 := same_new (o := .lst [V.ref tq]) nl4
        have hl4 : upd F4 l4 (.lst [V.ref tq]) l4 = some (.lst [V.ref tq]) := upd_same
        generalize upd F4 l4 (.lst [V.ref tq]) = F5 at u5 hl4 ⊢
        have lts : ts.length = kvd.length := pr.length
        have lkv : kvd.length = ms.length := D.mv.len
        have l3 := ap.l3
        refine ⟨p, l4, _, _, rfl, rfl, u5 _ _ (u4 _ _ hp), hl4, by rw [List.length_map, List.length_singleton, sizeLine_eq]; omega, fun l5 nl5 => ?_⟩
        have u6 := same_new (o := .lst (ts.map V.ref ++ [V.ref tq])) nl5
        have hl5 : upd F5 l5 (.lst (ts.map V.ref ++ [V.ref tq])) l5 = some (.lst (ts.map V.ref ++ [V.ref tq])) := upd_same
        generalize upd F5 l5 (.lst (ts.map V.ref ++ [V.ref tq])) = F6 at u6 hl5 ⊢
        have k36 : Same F3 F6 := (u4.trans u5).trans u6
        have pw : Paired (fun q (kv : Key × V) => F6 q = some (.tup [kV kv.1, kv.2])) (ts ++ [tq]) (kvd ++ [((Sum.inr n : Key), V.ref x)]) := (pr.mono (fun q kv e => k36 _ _ e)).snoc (u6 _ _ (u5 _ _ htq))
        refine ⟨l5, ts ++ [tq], kvd ++ [((Sum.inr n : Key), V.ref x)], rfl, SqL.of (by rw [List.map_append]; exact hl5), pw.mono (fun q kv e => SqT.of e), fun wd nwd => ?_⟩
        rw [mergeK_put ndk (List.mem_map.mpr ⟨_, List.mem_of_getElem? hk, rfl⟩)]
        have s26 : Same F2 F6 := fun b o e => k36 _ _ (k3 _ _ e)
        have mvW := MvsAt.put (n := n) (hmx.same s26) (mvL.same (s2.trans s26))
        generalize (kvd.map fun kv => if kv.1 = Sum.inr n then (kv.1, V.ref x) else kv) = kvw at mvW ⊢
        have u7 := same_new (o := .dK kvw) nwd
        have hwd : upd F6 wd (.dK kvw) wd = some (.dK kvw) := upd_same
        generalize upd F6 wd (.dK kvw) = F7 at u7 hwd ⊢
        have s7 : Same HL F7 := (s2.trans s26).trans u7
        have names : ∀ m' : Mvd, (ms.map fun y => if y.1 = n then (y.1, m') else y).map (·.1) = ms.map (·.1) := fun m' => map_names ms
        obtain ⟨m2, em2⟩ : ∃ m2 : Mvd, m2 = (m.1, rAdd m.2.1 ((1 : Int) : Rat), m.2.2.1, m.2.2.2) := ⟨_, rfl⟩
        have mvW2 : MvsAt K F7 kvw (ms.map fun y => if y.1 = n then (y.1, m2) else y) := by rw [em2]; exact mvW.same u7
        have mgW : MovesGiven K F7 (.ref wd) (ms.map fun y => if y.1 = n then (y.1, m2) else y) := .inr ⟨wd, kvw, rfl, hwd, mvW2, by rw [List.length_map]; omega, by rw [names]; exact D.nd, fun u hu => by rw [names] at hu; exact nm u hu⟩
        have inW : (n, m2) ∈ ms.map fun y => if y.1 = n then (y.1, m2) else y := List.mem_map.mpr ⟨(n, m), nmem, by rw [if_pos rfl]⟩
        refine ⟨rfl, chg TM (ruL.same s7) l64' nd' nm' (by decide +kernel) (by show 1 < 64; decide) rfl rfl (fun tw h => ⟨tw, rfl, h.when⟩) (fun md _ => mgW) ap.ng ap.na ap.rok D.l8 fun x8 F8 m8 t8 so8 r8 => ?_⟩
        have ne8 : mvEq ms' m8 = false := mvEq_no (n := n) (m := m) (ap.so.1.mem_iff.mpr nmem) (by
          rw [lookup_mem (SortM.nd so8 (by rw [names]; exact D.nd)) (so8.1.mem_iff.mpr inW)]
          intro z
          have e := Option.some.inj z
          rw [em2] at e
          exact rAdd_one m.2.1 (congrArg (fun x : Mvd => x.2.1) e))
        refine own_eq Z.U (ruL.same (s7.trans t8)) r8 fun F9 t9 => ⟨_, rfl, ?_⟩
        rw [ruleEq_m ne8]
        exact iteF ⟨(s7.trans t8).trans t9, _, _, _, rfl⟩
      · rintro z G23 ⟨s, w8, w9, w10, rfl⟩
        refine ⟨s _ _ dmL, ?_⟩
        refine k _ fun b o e => ?_
        by_cases c : b = dm
        · rw [c] at e ⊢
          rw [upd_same, ← e, D.dm]
        · rw [upd_ne c]
          exact s b o (by rw [eL, upd_ne c]; exact SG _ _ e)
end
end K18
set_option maxHeartbeats 8000000
namespace K18
open PySem PySem.Spec PyProof.Rows L2 GL StX
abbrev sRight : Stmt := tp 66
section
variable {P : Program} {w : World} {K : PySem.W.Frag} {mg : Str → Option Value} {base : Heap}
/-- Rule(g, a, moves = m) -/
theorem rule_kbm {f : Addr} {fd : FuncData} {e : V} (F : RuleD K e f fd) : ∃ gU, KBn K fd psRule 3 ["moves"] gU (fun vs zs => vs ++ ([e] ++ zs)) := by
  obtain ⟨mv, z⟩ := FunD.kbinds0 (ps := psRule) F 3 ["moves"] [("when", e)] (fun vs m zs => vs ++ (m ++ zs)) (by simp) (fun q hq => by simp at hq ⊢; exact .inl hq) (fun r1 r2 r3 => r1.append (r2.append r3)) fun D doc pm an cdv ct us mv ws h1 h2 h3 => by
    match us, mv, ws, h1, h2, h3 with
    | [_, _, _], [_], [_], _, _, _ => exact ⟨_, _, _, _, _, _, rfl, rfl, rfl⟩
  exact ⟨_, z⟩
structure RiF (P : Program) (w : World) (K : PySem.W.Frag) (mg : Str → Option Value) (base : Heap) (e : V) : Prop where
  Y : NearF P w K mg base
  A : AppF P w K mg base
  Kp : KeptF P w K mg base
  row : DefF P w K mg base "_law_row" 5 ["_law_pot_here"] (spLRow K)
  mv : DefF P w K mg base "_law_move" 8 ["_law_pot_here", "_law_shift_here"] (spLMove K)
  pa : DefF P w K mg base "_law_parts" 3 ["_law_rule"] (spLParts K)
  kept : ∃ f fd, FnG P w K mg base CX0 8 f fd ["_law_rule", "_law_claims_given", "_law_shifts_given", "_law_due"] (spKept K) ∧ mg "_law_kept" = some (.ref f) ∧ Binds K fd ["_law_rule", "_law_claims_given", "_law_shifts_given", "_law_due"] [] ∧ PySem.W.keepIn K (.ref f) = true
  appl : ∃ f fd, FnG P w K mg base CX0 9 f fd ["_law_pot_here", "_law_rule", "_law_row_here"] (spApplied K) ∧ mg "_law_applied" = some (.ref f) ∧ Binds K fd ["_law_pot_here", "_law_rule", "_law_row_here"] [] ∧ PySem.W.keepIn K (.ref f) = true
  chr : DefF P w K mg base "_law_changed_right" 9 ["_law_rule", "_law_due"] (spChR K)
  near : DefF P w K mg base "_law_near_unlike" 9 ["_law_rule", "_law_due"] (spNear K)
  mU0 : ∃ f fd gU, Mk K (aRu K) f ∧ FnOk P w K mg base (L2.CX P w) 5 f fd psRule (spRuleI K) ∧ KBn K fd psRule 3 [] gU (fun vs zs => vs ++ ([e, .non] ++ zs))
  mUm : ∃ f fd gU, Mk K (aRu K) f ∧ FnOk P w K mg base (L2.CX P w) 5 f fd psRule (spRuleI K) ∧ KBn K fd psRule 3 ["moves"] gU (fun vs zs => vs ++ ([e] ++ zs))
  e0 : ∃ eA t, e = .ref eA ∧ (∀ H, TyX K H (.ref eA) t) ∧ PySem.W.kitAny K t [.type "list", .type "tuple"] = some true ∧ ∀ H, SqT K H eA []
theorem CondsAt.keep {H H' : Hp} {xs : List V} {rows : List Row} (h : CondsAt K H xs rows) (t : ∀ b ys, H b = some (.tup ys) → H' b = some (.tup ys)) (i : ∀ b C dx fs, H b = some (.ins C dx fs) → H' b = some (.ins C dx fs)) : CondsAt K H' xs rows := ⟨h.1, fun j v r e1 e2 => by
  obtain ⟨c, num, ev, hc, hn⟩ := h.2 j v r e1 e2
  exact ⟨c, num, ev, t _ _ hc, hn.keep i⟩⟩
theorem CondsAt.snoc {H : Hp} {xs : List V} {rows : List Row} {c : Addr} {num : V} {r : Row} (h : CondsAt K H xs rows) (hc : H c = some (.tup [.str r.1, .str r.2.1, num])) (hn : NumAt K H num r.2.2) : CondsAt K H (xs ++ [.ref c]) (rows ++ [r]) := by
  refine ⟨by rw [List.length_append, List.length_append, h.1]; rfl, fun j v u e1 e2 => ?_⟩
  by_cases l : j < xs.length
  · rw [List.getElem?_append_left l] at e1
    rw [List.getElem?_append_left (by rw [← h.1]; exact l)] at e2
    exact h.2 j v u e1 e2
  · rw [List.getElem?_append_right (by omega)] at e1
    rw [List.getElem?_append_right (by rw [← h.1]; omega), ← h.1] at e2
    match j - xs.length, e1, e2 with
    | 0, e1, e2 =>
      cases e1
      cases e2
      exact ⟨c, num, rfl, hc, hn⟩
theorem CondsAt.nil {H : Hp} : CondsAt K H [] [] := ⟨rfl, fun j v r e1 e2 => by cases e1⟩
theorem RowsL.nil {H : Hp} : RowsL K H [] [] := ⟨rfl, fun j v r e1 e2 => by cases e1⟩
theorem rule_whenN {H : Hp} {x dx aw : Addr} {g a : Str} {rows : List Row} {mv : V} {ms : List (Str × Mvd)} {Q : VK} {E : XK} (TM : MF K mg) (hx : H x = none) (hd : H dx = none) (ng : NameS g) (na : NameS a) (wh : WhenAt K H aw rows) (ok : RowsOk rows) (l8 : rows.length ≤ 8) (mvs : MovesGiven K H mv ms)
    (k : ∀ H' ms', Same H H' → SortM ms ms' → RuleN K H H' x g a rows ms' → Q .non H') : spRuleI K [.ref x, .str g, .str a, .ref aw, mv] (upd (upd H dx (.own x)) x (.ins (aRu K) dx [])) Q E := by
  obtain ⟨xs, t, ty, kt, sq, cs⟩ := wh
  exact rule_fullN TM hx hd ng na ty kt sq cs ok (by rw [cs.1]; exact l8) mvs k
theorem names_z : ∀ n ∈ names3, (reprText n).length ≤ 200 := by
  have h : (names3.all fun n => decide ((reprText n).length ≤ 200)) = true := by decide +kernel
  exact fun n hn => of_decide_eq_true (List.all_eq_true.mp h n hn)
theorem side_z {sd : Str} (h : sideB sd = true) : (reprText sd).length ≤ 200 := by
  rcases sideB_cases h with e | e | e | e <;> (rw [e]; decide +kernel)
def spRight (K : PySem.W.Frag) : Sp := fun vs H Q _ => ∃ p : Addr, vs = [.ref p] ∧ Rng H p ∧ ∀ H', Same (off H p) H' → Q (.bl true) H'
abbrev nRight : List Str := ["_law_pot_here", "_law_row_here", "_law_claims_given", "_law_shifts_given", "_law_due", "_law_passed", "_law_rule", "_law_claim", "_law_name_now"]
theorem scRight : FnScope nRight ["_law_pot_here"] (defScope sRight) := ⟨rfl, rfl, rfl, by decide +kernel, rfl, by decide +kernel, by decide +kernel⟩
theorem ok_right {f : Addr} {fd : FuncData} {e : V} (F : Fun K "_law_right" "_law_right" sRight f fd) (X : RiF P w K mg base e) : FnG P w K mg base CX0 10 f fd ["_law_pot_here"] (spRight K) := by
  have Z := X.Y.Z
  obtain ⟨fRw, fdRw, GRw_, gRw, bRw, kRw⟩ := X.row
  obtain ⟨fMv, fdMv, GMv_, gMv, bMv, kMv⟩ := X.mv
  obtain ⟨fPa, fdPa, GPa_, gPa, bPa, kPa⟩ := X.pa
  obtain ⟨fKp, fdKp, GKp_, gKp, bKp, kKp⟩ := X.kept
  obtain ⟨fAp, fdAp, GAp_, gAp, bAp, kAp⟩ := X.appl
  obtain ⟨fCh, fdCh, GCh_, gCh, bCh, kCh⟩ := X.chr
  obtain ⟨fNe, fdNe, GNe_, gNe, bNe, kNe⟩ := X.near
  obtain ⟨fGv, fdGv, GGv_, gGv, bGv, kGv⟩ := X.A.gv
  obtain ⟨fDr, fdDr, GDr_, gDr, bDr, kDr⟩ := X.A.dr
  obtain ⟨fU, fdU, gU, MU, GU, KU⟩ := Z.mU
  obtain ⟨fU0, fdU0, gU0, MU0, GU0, KU0⟩ := X.mU0
  obtain ⟨fUm, fdUm, gUm, MUm, GUm, KUm⟩ := X.mUm
  obtain ⟨fE, oE, GE⟩ := Z.eq
  obtain ⟨fRq, oR, GRq⟩ := Z.U.eq
  obtain ⟨fMq, oM, GMq⟩ := X.Kp.mq
  obtain ⟨fR, fdR, dR, MR, GR, vdR, bR, bR0⟩ := Z.G.mR
  obtain ⟨fW, fdW, mW, GW, bW⟩ := X.Kp.L.wh
  obtain ⟨fO, fdO, mO, GO, bO⟩ := X.Kp.L.mo
  have TM := Z.M.T
  have TR := Z.G.T
  have U := Z.U.U
  have N := Z.U.N
  have G0 := K18.FnOk.ground GU
  have G00 := K18.FnOk.ground GU0
  have G0m := K18.FnOk.ground GUm
  refine Fun.okG F scRight (fun vs H Q E h => ?_) (fun cdv A outer s H vs Q E gd hr h => ?_)
  · obtain ⟨p, rfl, _⟩ := h
    rfl
  · obtain ⟨p, rfl, Rp, k⟩ := h
    have hu := hr.units
    have hu1 : (A.deeper (envOfC "_law_right" (defScope sRight) s.heap.objs.size f cdv)).units + 1 < cLine := by omega
    have r6 := hr.mono (show 6 ≤ 9 by decide)
    have r5 := hr.mono (show 5 ≤ 9 by decide)
    have rh : L2H.RoomH 5 (A.deeper (envOfC "_law_right" (defScope sRight) s.heap.objs.size f cdv)) := ⟨r5.dp, r5.un⟩
    refine ⟨_, (pss_cons (ps_set (i := 1) scRight.nd rfl (Or.inr rfl) (pe_call GRw_ (hr.mono (by decide)) rfl gRw kRw bRw .nil pass0 (pa_cons (pv 0) pa_nil)))
      (pss_cons (ps_setLc (i := 2) (own := [("_law_claim", 7)]) (g := gName 7) (tt := tYes) (by rfl) scRight.nd rfl rfl (sw_true rfl rfl rfl (by decide +kernel)) (pi_list (pe_ix ix_tup (pv 1) pe_int (fun _ _ => rfl))) (blkOk_by (own := [("_law_claim", 7)]) (N := nRight) (sc := defScope sRight) (by decide +kernel)) (fun _ _ _ _ _ => pg_name (i := 7) scRight.nd rfl (Or.inl rfl)) (fun _ _ _ _ _ => pts_nil) (fun _ _ _ _ _ => by exact (pe_tup (pa_cons (pe_ix (show IxR _ (rIxT K) from ix_tup) (pv 7) pe_int (fun _ _ => rfl)) (pa_cons (pe_ix (show IxR _ (rIxT K) from ix_tup) (pv 7) pe_int (fun _ _ => rfl)) (pa_cons (pe_call GGv_ (hr.mono (by decide)) rfl gGv kGv bGv .nil pass0 (pa_cons (pv 0) (pa_cons (pe_ix (show IxR _ (rIxT K) from ix_tup) (pv 7) pe_int (fun _ _ => rfl)) pa_nil))) pa_nil))))))
      (pss_cons (ps_set (i := 3) scRight.nd rfl (Or.inl rfl) (pe_lock (pe_callTy (call_dictP rfl) (by rfl) N.dict (by decide +kernel) (pa_cons (pe_lc (own := [("_law_name_now", 8)]) (g := gName 8) (tt := tYes) rfl scRight.nd (pi_keys (pe_ix ix_tup (pv 1) pe_int (fun _ _ => rfl))) (blkOk_by (own := [("_law_name_now", 8)]) (N := nRight) (sc := defScope sRight) (by decide +kernel)) (fun _ _ _ _ _ => pg_name (i := 8) scRight.nd rfl (Or.inl rfl)) (fun _ _ _ _ _ => pts_nil) (fun _ _ _ _ _ => by exact (pe_tup (pa_cons (pv 8) (pa_cons (pe_call GMv_ (hr.mono (by decide)) rfl gMv kMv bMv .nil pass0 (pa_cons (pv 0) (pa_cons (pe_dget hu1 (pe_ix (show IxR _ (rIxT K) from ix_tup) (pv 1) pe_int (fun _ _ => rfl)) (pv 8) (fun _ _ => rfl)) pa_nil))) pa_nil))))) pa_nil))))
      (pss_cons (ps_set (i := 4) scRight.nd rfl (Or.inl rfl) (pe_lst (pa_cons (pe_ix ix_tup (pv 1) pe_int (fun _ _ => rfl)) (pa_cons (pe_ix ix_tup (pv 1) pe_int (fun _ _ => rfl)) (pa_cons (pe_callTy call_tuple_of (by rfl) N.tuple (by decide +kernel) (pa_cons (pe_lc (own := [("_law_claim", 7)]) (g := gName 7) (tt := tYes) rfl scRight.nd (pi_list (pe_ix ix_tup (pv 1) pe_int (fun _ _ => rfl))) (blkOk_by (own := [("_law_claim", 7)]) (N := nRight) (sc := defScope sRight) (by decide +kernel)) (fun _ _ _ _ _ => pg_name (i := 7) scRight.nd rfl (Or.inl rfl)) (fun _ _ _ _ _ => pts_nil) (fun _ _ _ _ _ => by exact (pe_tup (pa_cons (pe_ix (show IxR _ (rIxT K) from ix_tup) (pv 7) pe_int (fun _ _ => rfl)) (pa_cons (pe_ix (show IxR _ (rIxT K) from ix_tup) (pv 7) pe_int (fun _ _ => rfl)) (pa_cons (pe_make MR GR (hr.mono (by decide)) rfl TR.gR bR0 .nil pass0 (pa_cons (pe_ix (show IxR _ (rIxT K) from ix_tup) (pe_ix (show IxR _ (rIxT K) from ix_tup) (pv 7) pe_int (fun _ _ => rfl)) pe_int (fun _ _ => rfl)) (pa_cons (pe_ix (show IxR _ (rIxT K) from ix_tup) (pe_ix (show IxR _ (rIxT K) from ix_tup) (pv 7) pe_int (fun _ _ => rfl)) pe_int (fun _ _ => rfl)) pa_nil))) pa_nil)))))) pa_nil)) pa_nil)))))
      (pss_cons (ps_expr (pe_bm PySem.F.plainAttrs_list PySem.F.slot_list_append PySem.F.type_list_append mt_append (pv 4) (pa_cons (pe_callTy call_dictD (by rfl) N.dict (by decide +kernel) (pa_cons (pv 3) pa_nil)) pa_nil)))
      (pss_cut (ps_set (i := 5) scRight.nd rfl (Or.inl rfl) (pe_ifExp (pt_cmpR op_eq (pe_call GDr_ (hr.mono (by decide)) rfl gDr kDr bDr .nil pass0 (pa_cons (pv 0) (pa_cons pe_int pa_nil))) pe_int (nomark _)) (pe_callTy call_tuple_of (by rfl) N.tuple (by decide +kernel) (pa_cons (pv 2) pa_nil)) (pv 2)))
      (pss_cons (ps_set (i := 6) scRight.nd rfl (Or.inl rfl) (pe_makeK (ks := ["when", "moves"]) MU G0 r6 rfl U.gU KU pass0 (pa_cons (pe_ix ix_tup (pv 1) pe_int (fun _ _ => rfl)) (pa_cons (pe_ix ix_tup (pv 1) pe_int (fun _ _ => rfl)) pa_nil)) (pk_cons (pv 5) (pk_cons (pv 3) pk_nil))))
      (pss_cons (ps_if (PW.pt (pw_or (pt_not (pt_val (pe_callG GKp_ gd (hr.mono (by decide)) rfl gKp kKp bKp .nil pass0 (pa_cons (pv 6) (pa_cons (pv 5) (pa_cons (pv 3) (pa_cons (pv 4) pa_nil))))))) (pw_or1 (pt_not (pt_val (pe_callG GAp_ gd (hr.mono (by decide)) rfl gAp kAp bAp .nil pass0 (pa_cons (pv 0) (pa_cons (pv 6) (pa_cons (pv 1) pa_nil))))))))) (pss_one (ps_ret pe_bl)) pss_nil)
      (pss_cons (ps_if (PW.pt (pw_or (pt_cmpR (op_neT (monB_tupS monB_th) (eqB_tup monB_th (eqB_th oR GRq)) (hr.mono (by decide))) (pe_meth0 (pe_makeK (ks := []) MU0 G00 r6 rfl U.gU KU0 pass0 (pa_cons (pe_ix ix_tup (pv 1) pe_int (fun _ _ => rfl)) (pa_cons (pe_ix ix_tup (pv 1) pe_int (fun _ _ => rfl)) pa_nil)) pk_nil) U.cl mW GW (hr.mono (by decide)) bW .nil pass0) (pe_tup pa_nil) (nomark _)) (pw_or1 (pt_cmpR (op_neDc monB_flat eqB_flat (hr.mono (by decide))) (pe_meth0 (pe_makeK (ks := ["moves"]) MUm G0m r6 rfl U.gU KUm pass0 (pa_cons (pe_ix ix_tup (pv 1) pe_int (fun _ _ => rfl)) (pa_cons (pe_ix ix_tup (pv 1) pe_int (fun _ _ => rfl)) pa_nil)) (pk_cons pe_non pk_nil)) U.cl mO GO (hr.mono (by decide)) bO .nil pass0) pe_dnewK (nomark _))))) (pss_one (ps_ret pe_bl)) pss_nil)
      (pss_cut (ps_if (PW.pt (pw_and (pt_cmpR (op_neT (monB_tupS monB_th) (eqB_tup monB_th (eqB_th oR GRq)) (hr.mono (by decide))) (pe_ix ix_list (pv 4) pe_int (fun _ _ => rfl)) (pe_tup pa_nil) (nomark _)) (pw_and1 (pt_cmpR (op_eqO oE GE r5 pass0) (pv 6) (pe_makeK (ks := ["when", "moves"]) MU G0 r6 rfl U.gU KU pass0 (pa_cons (pe_ix ix_list (pv 4) pe_int (fun _ _ => rfl)) (pa_cons (pe_ix ix_list (pv 4) pe_int (fun _ _ => rfl)) pa_nil)) (pk_cons (pe_slice sl_tup (pe_ix ix_list (pv 4) pe_int (fun _ _ => rfl)) (po_some pe_int) po_none) (pk_cons (pe_ix ix_list (pv 4) pe_int (fun _ _ => rfl)) pk_nil))) (nomark _))))) (pss_one (ps_ret pe_bl)) pss_nil)
      (pss_cons (ps_if (PW.pt (pw_or (pt_not (pt_val (pe_call GCh_ (hr.mono (by decide)) rfl gCh kCh bCh .nil pass0 (pa_cons (pv 6) (pa_cons (pv 4) pa_nil))))) (pw_or1 (pt_not (pt_val (pe_call GNe_ (hr.mono (by decide)) rfl gNe kNe bNe .nil pass0 (pa_cons (pv 6) (pa_cons (pv 4) pa_nil)))))))) (pss_one (ps_ret pe_bl)) pss_nil)
      (pss_one (ps_ret (pe_and (pe_cmpR op_eq (pe_callB (call_repK X.Kp.RR gd rh) (by rfl) X.Kp.rp (by decide +kernel) (pa_cons (pe_slice sl_list (pe_call GPa_ (hr.mono (by decide)) rfl gPa kPa bPa .nil pass0 (pa_cons (pv 6) pa_nil)) po_none (po_some pe_int)) pa_nil)) (pe_callB (call_repK X.Kp.RR gd rh) (by rfl) X.Kp.rp (by decide +kernel) (pa_cons (pe_slice sl_list (pv 4) po_none (po_some pe_int)) pa_nil)) (nomark _)) (pe_one (pe_cmpR (op_eqDc monB_mov (eqB_mov oM GMq) (hr.mono (by decide))) (pe_meth0 (pv 6) U.cl mO GO (hr.mono (by decide)) bO .nil pass0) (pe_ix ix_list (pv 4) pe_int (fun _ _ => rfl)) (nomark _))))))))))))))))), ?_⟩
    refine ⟨_, rfl, p, rfl, Rp, fun c Ds lc Dm kvs kvm xs sp rows g a ms H1 s1 R1 row gz az => ?_⟩
    have toZ : ∀ G, Same (off H1 p) G → Same (Zp p H1) G := fun G s b o e => s b o (by rw [off_ne (Zp.sm e).1]; exact (Zp.sm e).2.1)
    have l2 := row.l2
    have lx : xs.length = rows.length := row.cls.len
    have rowIx : ∀ G, Same (off H1 p) G → SqT K G c [.ref Ds, .ref lc, .str g, .str a, .ref Dm] := fun G s => SqT.of (toZ G s _ _ row.c)
    have lcIx : ∀ G, Same (off H1 p) G → SqL K G lc xs := fun G s => SqL.of (toZ G s _ _ row.lc)
    have rf : Same (off H1 p) H1 := fun b o e => (off_some e).2
    refine ⟨_, rfl, c, _, _, _, rfl, rfl, rowIx H1 rf, rfl, lc, rfl, ⟨xs, lcIx H1 rf⟩, fun D hD => ?_⟩
    have Dp := R1.ne_new' hD
    have fresh : ∀ b o, off H1 p b = some o → b ≠ D := fun b o e => ne_of_none (off_some e).2 hD
    refine lc_list (K := K) (a := lc) (xs := xs) (fun i G => Same (off H1 p) G ∧ Rng G p ∧ ∃ acc, G D = some (.lst acc) ∧ CondsAt K G acc (rows.take i)) ⟨fun b o e => (upd_ne (fresh b o e)).trans (off_some e).2, rng_upd R1 Dp, [], upd_same, .nil⟩ (fun i G _ h => lcIx G h.1) ?_ ?_
    · rintro i y G hi ⟨sG, RG, acc, hacc, cs⟩
      obtain ⟨r, hr_, cc, qa, rfl, hcc, hqa⟩ := row.cls.at hi
      have rm := List.mem_of_getElem? hr_
      have hc1 := toZ G sG _ _ hcc
      have hq1 := toZ G sG _ _ hqa
      refine ⟨rfl, _, rfl, cc, _, _, _, rfl, rfl, SqT.of hc1, rfl, _, rfl, cc, _, _, _, rfl, rfl, SqT.of hc1, rfl, _, rfl, _, rfl, cc, _, _, _, rfl, rfl, SqT.of hc1, rfl, p, qa, r.2.2, rfl, RG, hq1, (row.cok r rm).sz.mono (by decide), fun x G2 s2 R2 nx => ?_⟩
      refine ⟨(by show 3 ≤ sizeLine; decide), fun t nt => ?_⟩
      have ut := same_new (o := .tup [V.str r.1, .str r.2.1, x]) nt
      have ht : upd G2 t (.tup [V.str r.1, .str r.2.1, x]) t = some (.tup [V.str r.1, .str r.2.1, x]) := upd_same
      have hD2 : G2 D = some (.lst acc) := s2 _ _ (by rw [off_ne Dp]; exact hacc)
      have hD3 := ut _ _ hD2
      have R3 := R2.same' ut
      have cs3 : CondsAt K (upd G2 t (.tup [V.str r.1, .str r.2.1, x])) acc (rows.take i) := cs.keep (fun b ys e => ut _ _ (s2 _ _ (by rw [off_ne (RG.ne e)]; exact e))) (fun b C dx fs e => ut _ _ (s2 _ _ (by rw [off_ne (RG.ne_ins e)]; exact e)))
      have nx3 := nx.same ut
      have k3 : Same (off H1 p) (upd G2 t (.tup [V.str r.1, .str r.2.1, x])) := fun b o e => ut _ _ (s2 b o (by rw [off_ne (off_some e).1]; exact sG b o e))
      generalize upd G2 t (.tup [V.str r.1, .str r.2.1, x]) = G3 at ht hD3 R3 cs3 nx3 k3 ⊢
      refine ⟨acc, hD3, by rw [cs.1, List.length_take, sizeLine_eq]; omega, fun b o e => (upd_ne (fresh b o e)).trans (k3 b o e), rng_upd R3 Dp, _, upd_same, ?_⟩
      rw [List.take_add_one, hr_]
      refine (cs3.snoc ht nx3).keep (fun b ys e => (upd_ne (fun z => by rw [z, hD3] at e; cases e)).trans e) (fun b C dx fs e => (upd_ne (fun z => by rw [z, hD3] at e; cases e)).trans e)
    rintro H2 ⟨s2, R2, cg, hcg, ccs⟩
    rw [lx, List.take_length] at ccs
    have hDm2 : H2 Dm = some (.dK kvm) := toZ H2 s2 _ _ row.dm
    have Dmp : Dm ≠ p := (Zp.sm row.dm).1
    have shl : kvm.length = ms.length := row.shs.len
    have m3 := row.mok.l3
    refine ⟨Dm, _, hDm2, trivial, fun od => ?_⟩
    have nmD : ∀ b o, Zp p H1 b = some o → (∀ kvs, o ≠ .dK kvs) → b ≠ Dm := fun b o e n z => by
      rw [z, row.dm] at e
      cases e
      exact n _ rfl
    have Dcg : D ≠ Dm := fun z => by rw [z, hDm2] at hcg; cases hcg
    have RL : Rng (upd H2 Dm (.frz od (.dK kvm))) p := rng_upd R2 Dmp
    have kL : ∀ b o, off H1 p b = some o → b ≠ Dm → upd H2 Dm (.frz od (.dK kvm)) b = some o := fun b o e n => (upd_ne n).trans (s2 b o e)
    have zL : ∀ b o, Zp p H1 b = some o → (∀ kvs, o ≠ .dK kvs) → upd H2 Dm (.frz od (.dK kvm)) b = some o := fun b o e n => kL b o (by rw [off_ne (Zp.sm e).1]; exact (Zp.sm e).2.1) (nmD b o e n)
    have cgL : upd H2 Dm (.frz od (.dK kvm)) D = some (.lst cg) := (upd_ne Dcg).trans hcg
    have ccsL : CondsAt K (upd H2 Dm (.frz od (.dK kvm))) cg rows := ccs.keep (fun b ys e => (upd_ne (fun z => by rw [z, hDm2] at e; cases e)).trans e) (fun b C dx fs e => (upd_ne (fun z => by rw [z, hDm2] at e; cases e)).trans e)
    have shL : ShsAt (upd H2 Dm (.frz od (.dK kvm))) kvm ms := row.shs.keep fun b ys e => zL b _ e (fun _ z => by cases z)
    have cL : upd H2 Dm (.frz od (.dK kvm)) c = some (.tup [.ref Ds, .ref lc, .str g, .str a, .ref Dm]) := zL _ _ row.c (fun _ z => by cases z)
    have dmL : upd H2 Dm (.frz od (.dK kvm)) Dm = some (.frz od (.dK kvm)) := upd_same
    refine ⟨_, rfl, c, _, _, _, rfl, rfl, SqT.of cL, rfl, Dm, od, rfl, .inl ⟨kvm, dmL, fun D2 hD2 => ?_⟩⟩
    obtain ⟨HL, eL⟩ : ∃ X, X = upd H2 Dm (.frz od (.dK kvm)) := ⟨_, rfl⟩
    rw [← eL] at RL kL zL cgL ccsL shL cL dmL hD2 ⊢
    have D2p := RL.ne_new' hD2
    have fr2 : ∀ b o, off HL p b = some o → b ≠ D2 := fun b o e => ne_of_none (off_some e).2 hD2
    have cp : c ≠ p := (Zp.sm row.c).1
    have ndkm : (kvm.map (·.1)).Nodup := by
      rw [row.shs.keys]
      exact List.Pairwise.map _ (fun a b h z => h (Sum.inr.inj z)) row.mok.nd
    refine lc_it walk_keys (fun i G => Same (off HL p) G ∧ Rng G p ∧ ∃ ps kvg, G D2 = some (.lst (ps.map V.ref)) ∧ Paired (fun q (kv : Key × V) => G q = some (.tup [kV kv.1, kv.2])) ps kvg ∧ MvsAt K G kvg (ms.take i)) ⟨fun b o e => (upd_ne (fr2 b o e)).trans (off_some e).2, rng_upd RL D2p, [], [], upd_same, .nil, trivial⟩ (fun i G _ h => h.1 _ _ (by rw [off_ne Dmp]; exact dmL)) ?_ ?_
    · rintro i y G G0 hi ⟨sG, RG, ps, kvg, hps, pr, mv⟩ ⟨rfl, key, v, hk, rfl⟩
      obtain ⟨n, m, hn, rfl, cm, rfl, shm⟩ : ∃ n m, ms[i]? = some (n, m) ∧ key = Sum.inr n ∧ ∃ cm, v = .ref cm ∧ ShAt HL cm m := by
        have gen : ∀ {kvs : List (Key × V)} {ms : List (Str × Mvd)} {i : Nat}, ShsAt HL kvs ms → kvs[i]? = some (key, v) → ∃ n m, ms[i]? = some (n, m) ∧ key = Sum.inr n ∧ ∃ cm, v = .ref cm ∧ ShAt HL cm m := by
          intro kvs
          induction kvs with
          | nil => intro ms i _ e; cases e
          | cons x r ih =>
            intro ms i h e
            obtain ⟨k', v'⟩ := x
            cases ms with
            | nil => exact h.elim
            | cons y t =>
              obtain ⟨n', m'⟩ := y
              obtain ⟨e1, ⟨cm, e2, e3⟩, tl⟩ := h
              cases i with
              | zero =>
                cases e
                exact ⟨n', m', rfl, e1, cm, e2, e3⟩
              | succ i => exact ih (i := i) tl e
        exact gen shL hk
      have mo := row.mok.ok _ (List.mem_of_getElem? hn)
      have cG : G0 c = some (.tup [.ref Ds, .ref lc, .str g, .str a, .ref Dm]) := sG _ _ (by rw [off_ne cp]; exact cL)
      have shG : ShAt G0 cm m := shm.keep fun b ys e => sG b _ (by rw [off_ne (RL.ne e)]; exact e)
      refine ⟨rfl, _, rfl, _, rfl, _, rfl, c, _, _, _, rfl, rfl, SqT.of cG, rfl, _, rfl, Dm, .ref cm, rfl, .inl ⟨kvm, .inr n, .inr ⟨od, sG _ _ (by rw [off_ne Dmp]; exact dmL)⟩, rfl, (valV_at ndkm hk).symm⟩, p, cm, m, rfl, RG, shG, mo, fun gm G2 s2' R2' hgm => ?_⟩
      refine ⟨(by show 2 ≤ sizeLine; decide), fun tq ntq => ?_⟩
      have uq := same_new (o := .tup [kV (Sum.inr n), V.ref gm]) ntq
      have htq : upd G2 tq (.tup [kV (Sum.inr n), V.ref gm]) tq = some (.tup [kV (Sum.inr n), V.ref gm]) := upd_same
      have k3 : ∀ b o, G0 b = some o → b ≠ p → upd G2 tq (.tup [kV (Sum.inr n), V.ref gm]) b = some o := fun b o e n => uq _ _ (s2' b o (by rw [off_ne n]; exact e))
      have R3 := R2'.same' uq
      have hgm3 := hgm.same uq
      generalize upd G2 tq (.tup [kV (Sum.inr n), V.ref gm]) = G3 at htq k3 R3 hgm3 ⊢
      have hps3 := k3 _ _ hps D2p
      have offD : ∀ b o, G3 b = some o → (∀ ys, o ≠ .lst ys) → b ≠ D2 := fun b o e n z => by
        rw [z, hps3] at e
        cases e
        exact n _ rfl
      refine ⟨_, hps3, ?_, fun b o e => (upd_ne (fr2 b o e)).trans (k3 b o (sG b o e) (off_some e).1), rng_upd R3 D2p, ps ++ [tq], kvg ++ [(Sum.inr n, .ref gm)], ?_, ?_, ?_⟩
      · have z1 := pr.length
        have z2 := mv.len
        rw [List.length_take] at z2
        rw [List.length_map, sizeLine_eq]
        omega
      · rw [upd_same, List.map_append]
        rfl
      · refine (pr.mono fun q kv e => ?_).snoc ?_
        · have e3 := k3 _ _ e (RG.ne e)
          exact (upd_ne (offD _ _ e3 (fun _ z => by cases z))).trans e3
        · exact (upd_ne (offD _ _ htq (fun _ z => by cases z))).trans htq
      · rw [List.take_add_one, hn]
        have kI : ∀ b C dx fs, G3 b = some (.ins C dx fs) → upd G3 D2 (.lst (ps.map V.ref ++ [V.ref tq])) b = some (.ins C dx fs) := fun b C dx fs e => (upd_ne (offD _ _ e (fun _ z => by cases z))).trans e
        exact MvsAt.snoc (hgm3.keep kI) (mv.keep fun p' m' h => h.keep fun b C dx fs e => kI _ _ _ _ (k3 _ _ e (RG.ne_ins e)))
    rintro H3 ⟨s3, R3, ps, kvg, hps, pr, mvg⟩
    rw [shl, List.take_length] at mvg
    have ndkg : (kvg.map (·.1)).Nodup := by
      rw [mvg.keys]
      exact List.Pairwise.map _ (fun a b h z => h (Sum.inr.inj z)) row.mok.nd
    refine ⟨D2, ps, kvg, rfl, SqL.of hps, pr.mono (fun q kv e => SqT.of e), fun sg nsg => ?_⟩
    rw [show mergeK [] kvg = kvg from mergeK_new _ [] ndkg]
    have dm3 : H3 Dm = some (.frz od (.dK kvm)) := s3 _ _ (by rw [off_ne Dmp]; exact dmL)
    have sgD : sg ≠ Dm := fun z => by rw [z, dm3] at nsg; cases nsg
    refine ⟨(upd_ne sgD.symm).trans dm3, ?_⟩
    have up4 : ∀ b o, H3 b = some o → b ≠ Dm → upd (upd H3 sg (.dK kvg)) Dm (.dK kvm) b = some o := fun b o e n => (upd_ne n).trans ((upd_ne (ne_of_none e nsg)).trans e)
    have nf4 : ∀ b o, H3 b = some o → (∀ u, o ≠ .frz od u) → b ≠ Dm := fun b o e n z => by
      rw [z, dm3] at e
      cases e
      exact n _ rfl
    have k4 : Same (off H1 p) (upd (upd H3 sg (.dK kvg)) Dm (.dK kvm)) := fun b o e => by
      by_cases z : b = Dm
      · rw [z] at e ⊢
        rw [upd_same, ← (off_some e).2]
        exact ((Zp.sm row.dm).2.1).symm
      · exact up4 b o (s3 b o (by rw [off_ne (off_some e).1]; exact kL b o e z)) z
    have sg4 : upd (upd H3 sg (.dK kvg)) Dm (.dK kvm) sg = some (.dK kvg) := (upd_ne sgD).trans upd_same
    have cg4 : upd (upd H3 sg (.dK kvg)) Dm (.dK kvm) D = some (.lst cg) := up4 _ _ (s3 _ _ (by rw [off_ne Dp]; exact cgL)) Dcg
    have R4 : Rng (upd (upd H3 sg (.dK kvg)) Dm (.dK kvm)) p := rng_upd (R3.same' (same_new nsg)) Dmp
    have mv4 : MvsAt K (upd (upd H3 sg (.dK kvg)) Dm (.dK kvm)) kvg ms := mvg.keep fun p' m' h => h.keep fun b C dx fs e => up4 _ _ e (nf4 _ _ e (fun _ z => by cases z))
    have ccs4 : CondsAt K (upd (upd H3 sg (.dK kvg)) Dm (.dK kvm)) cg rows := ccsL.keep (fun b ys e => up4 _ _ (s3 _ _ (by rw [off_ne (RL.ne e)]; exact e)) (fun z => by rw [z, dmL] at e; cases e)) (fun b C dx fs e => up4 _ _ (s3 _ _ (by rw [off_ne (RL.ne_ins e)]; exact e)) (fun z => by rw [z, dmL] at e; cases e))
    generalize upd (upd H3 sg (.dK kvg)) Dm (.dK kvm) = H4 at k4 sg4 cg4 R4 mv4 ccs4 ⊢
    have rk : ∀ G, Same H4 G → Same (off H1 p) G := fun G s b o e => s _ _ (k4 b o e)
    have r4 : Same H4 H4 := fun _ _ e => e
    refine ⟨_, rfl, c, _, _, _, rfl, rfl, rowIx H4 k4, rfl, _, rfl, c, _, _, _, rfl, rfl, rowIx H4 k4, rfl, _, rfl, c, _, _, _, rfl, rfl, rowIx H4 k4, rfl, lc, rfl, ⟨xs, lcIx H4 k4⟩, fun D3 hD3 => ?_⟩
    refine lc_list (K := K) (a := lc) (xs := xs) (fun i G => Same H4 G ∧ ∃ acc, G D3 = some (.lst acc) ∧ RowsL K G acc (rows.take i)) ⟨same_new hD3, [], upd_same, .nil⟩ (fun i G _ h => lcIx G (rk G h.1)) ?_ ?_
    · rintro i y G hi ⟨sG, acc, hacc, cs⟩
      obtain ⟨r, hr_, cc, qa, rfl, hcc, hqa⟩ := row.cls.at hi
      have rm := List.mem_of_getElem? hr_
      have hc1 := toZ G (rk G sG) _ _ hcc
      have hq1 := toZ G (rk G sG) _ _ hqa
      refine ⟨rfl, _, rfl, cc, _, _, _, rfl, rfl, SqT.of hc1, rfl, _, rfl, cc, _, _, _, rfl, rfl, SqT.of hc1, rfl, _, rfl, cc, _, _, _, rfl, rfl, SqT.of hc1, rfl, qa, _, _, _, rfl, rfl, SqT.of hq1, rfl, _, rfl, cc, _, _, _, rfl, rfl, SqT.of hc1, rfl, qa, _, _, _, rfl, rfl, SqT.of hq1, rfl, ?_⟩
      intro x dxx hx hdx ne
      refine ⟨x, dxx, r.2.2.num, (r.2.2.den : Int), rfl, den_ne r.2.2, Nat.lt_of_lt_of_le ((row.cok r rm).sz.den) (Nat.pow_le_pow_right (by decide) (by decide)), upd_same, fun G1 er kpr => ⟨rfl, ?_⟩⟩
      have s1' : Same G G1 := fun b o ec => kpr b o (ne_of_none ec hx) (by rw [upd_ne (ne_of_none ec hx), upd_ne (ne_of_none ec hdx)]; exact ec)
      have hra : RatAt K G1 x r.2.2 := ⟨dxx, by rw [Rat.num_divInt_den] at er; exact er⟩
      refine ⟨(by show 3 ≤ sizeLine; decide), fun t nt => ?_⟩
      have ut := same_new (o := .tup [V.str r.1, .str r.2.1, .ref x]) nt
      have ht : upd G1 t (.tup [V.str r.1, .str r.2.1, .ref x]) t = some (.tup [V.str r.1, .str r.2.1, .ref x]) := upd_same
      have hra3 := hra.same ut
      have sk := s1'.trans ut
      generalize upd G1 t (.tup [V.str r.1, .str r.2.1, .ref x]) = G3 at ht hra3 sk ⊢
      have hD4 := sk _ _ hacc
      refine ⟨acc, hD4, by rw [cs.1, List.length_take, sizeLine_eq]; omega, fun b o e => (upd_ne (ne_of_none e hD3)).trans (sk _ _ (sG _ _ e)), _, upd_same, ?_⟩
      rw [List.take_add_one, hr_]
      refine ((cs.same sk).snoc ht hra3).keep (fun b ys e => (upd_ne (fun z => by rw [z, hD4] at e; cases e)).trans e) (fun p' q' h => ?_)
      obtain ⟨d, e⟩ := h
      exact ⟨d, (upd_ne (fun z => by rw [z, hD4] at e; cases e)).trans e⟩
    rintro H5 ⟨s5, acc, hacc, rl⟩
    rw [lx, List.take_length] at rl
    refine ⟨D3, acc, rfl, .inl ⟨SqL.of hacc, fun t nt => ?_⟩⟩
    have u6 := same_new (o := .tup acc) nt
    have t6 : RowsAt K (upd H5 t (.tup acc)) t rows := ⟨acc, upd_same, rl.same u6⟩
    generalize upd H5 t (.tup acc) = H6 at u6 t6 ⊢
    refine ⟨(by show 3 ≤ sizeLine; decide), fun du ndu => ?_⟩
    have u7 := same_new (o := .lst [V.str g, .str a, .ref t]) ndu
    have du7 : upd H6 du (.lst [V.str g, .str a, .ref t]) du = some (.lst [V.str g, .str a, .ref t]) := upd_same
    have t7 := t6.same u7
    have s47 : Same H4 (upd H6 du (.lst [V.str g, .str a, .ref t])) := (s5.trans u6).trans u7
    have n4du : H4 du = none := none_of (s5.trans u6) ndu
    generalize upd H6 du (.lst [V.str g, .str a, .ref t]) = H7 at u7 du7 t7 s47 ⊢
    refine ⟨_, rfl, .inl ⟨rfl, _, SqL.of du7⟩, _, rfl, sg, kvg, rfl, .of (s47 _ _ sg4), fun dm ndm => ?_⟩
    have u8 := same_new (o := .dK kvg) ndm
    have dm8 : upd H7 dm (.dK kvg) dm = some (.dK kvg) := upd_same
    have t8 := t7.same u8
    have s48 : Same H4 (upd H7 dm (.dK kvg)) := s47.trans u8
    have n4dm : H4 dm = none := none_of s47 ndm
    have du8 := u8 _ _ du7
    generalize upd H7 dm (.dK kvg) = H8 at u8 dm8 t8 s48 du8 ⊢
    refine ⟨du, _, _, rfl, rfl, du8, by show 3 < sizeLine; decide, ?_⟩
    have s49 : Same H4 (upd H8 du (.lst ([V.str g, .str a, .ref t] ++ [V.ref dm]))) := fun b o e => (upd_ne (ne_of_none e n4du)).trans (s48 _ _ e)
    have du9 : upd H8 du (.lst ([V.str g, .str a, .ref t] ++ [V.ref dm])) du = some (.lst [V.str g, .str a, .ref t, .ref dm]) := upd_same
    have dm9 : upd H8 du (.lst ([V.str g, .str a, .ref t] ++ [V.ref dm])) dm = some (.dK kvg) := (upd_ne (fun z => by rw [z, du8] at dm8; cases dm8)).trans dm8
    have t9 : RowsAt K (upd H8 du (.lst ([V.str g, .str a, .ref t] ++ [V.ref dm]))) t rows := by
      obtain ⟨ys, e, r⟩ := t8
      refine ⟨ys, (upd_ne (fun z => by rw [z, du8] at e; cases e)).trans e, r.keep (fun b zs e => (upd_ne (fun z => by rw [z, du8] at e; cases e)).trans e) fun p' q' h => ?_⟩
      obtain ⟨d, e⟩ := h
      exact ⟨d, (upd_ne (fun z => by rw [z, du8] at e; cases e)).trans e⟩
    have ndm9 : dm ≠ sg := fun z => by rw [z, sg4] at n4dm; cases n4dm
    have ndu9 : du ≠ D := fun z => by rw [z, cg4] at n4du; cases n4du
    generalize upd H8 du (.lst ([V.str g, .str a, .ref t] ++ [V.ref dm])) = H9 at s49 du9 dm9 t9 ⊢
    have R9 : Rng H9 p := R4.same' s49
    have cg9 := s49 _ _ cg4
    have sg9 := s49 _ _ sg4
    have mv9 := mv4.same s49
    have ccs9 := ccs4.same s49
    have sgp : sg ≠ p := (Zp.sm (R9.zp_dK sg9)).1
    have dmp : dm ≠ p := (Zp.sm (R9.zp_dK dm9)).1
    have dup : du ≠ p := R4.ne_new' n4du
    have k9 : ∀ G, Same (off H9 p) G → Same (off H1 p) G := fun G s b o e => s b o (by rw [off_ne (off_some e).1]; exact rk H9 s49 b o e)
    refine ⟨fun z G => Same (off H9 p) G ∧ Rng G p ∧ ∃ pa, z = [some (.ref p), some (.ref c), some (.ref D), some (.ref sg), some (.ref du), some (.ref pa), none, none, none] ∧ ((pa = D) ∨ (G pa = some (.tup cg))), ?_, ?_⟩
    · refine ⟨_, rfl, p, 2, rfl, R9, by decide, by decide, fun d G d0 d1 kp R => ⟨rfl, _, rfl, ?_⟩⟩
      refine ite2 (fun _ => ?_) (fun _ => ?_)
      · refine ⟨_, rfl, D, cg, rfl, .inl ⟨SqL.of (kp _ _ cg9 Dp), fun tc ntc => ?_⟩⟩
        have u := same_new (o := .tup cg) ntc
        exact ⟨fun b o e => u _ _ (kp b o (off_some e).2 (off_some e).1), R.same' u, tc, rfl, .inr upd_same⟩
      · exact ⟨_, rfl, fun b o e => kp b o (off_some e).2 (off_some e).1, R, D, rfl, .inl rfl⟩
    rintro z G ⟨sG, RG, pa, rfl, hpa⟩
    have gk : ∀ b o, H9 b = some o → b ≠ p → G b = some o := fun b o e n => sG b o (by rw [off_ne n]; exact e)
    have kG : Same (off H1 p) G := k9 G sG
    have cgG := gk _ _ cg9 Dp
    have sgG := gk _ _ sg9 sgp
    have duG := gk _ _ du9 dup
    have dmG := gk _ _ dm9 dmp
    have mvG : MvsAt K G kvg ms := mv9.keep fun p' m' h => h.keep fun b C dx fs e => gk _ _ e (R9.ne_ins e)
    have ccsG : CondsAt K G cg rows := ccs9.keep (fun b ys e => gk _ _ e (R9.ne e)) (fun b C dx fs e => gk _ _ e (R9.ne_ins e))
    have tG : RowsAt K G t rows := by
      obtain ⟨ys, e, r⟩ := t9
      refine ⟨ys, gk _ _ e (R9.ne e), r.keep (fun b zs e => gk _ _ e (R9.ne e)) fun p' q' h => ?_⟩
      obtain ⟨d, e⟩ := h
      exact ⟨d, gk _ _ e (R9.ne_ins e)⟩
    have rok : RowsOk rows := fun r hr => ⟨names_nm _ (row.sok.mem _ (row.cok r hr).nm), (row.cok r hr).sd⟩
    have whG : WhenAt K G pa rows := by
      rcases hpa with rfl | e
      · exact .lst cgG ccsG
      · exact ⟨cg, _, .base (.tup e), kit_tuple, .inr (SqT.of e), ccsG⟩
    have nmS : ∀ n ∈ ms.map (·.1), NameS n := fun n hn => names_nm n (row.mok.mem n hn)
    have mgG : MovesGiven K G (.ref sg) ms := .inr ⟨sg, kvg, rfl, sgG, mvG, by omega, row.mok.nd, nmS⟩
    refine ⟨_, rfl, c, _, _, _, rfl, rfl, rowIx G kG, rfl, _, rfl, c, _, _, _, rfl, rfl, rowIx G kG, rfl, _, rfl, _, rfl, rfl, rfl, fun x dxx hx hdx ne => ?_⟩
    change spRuleI K [.ref x, .str g, .str a, .ref pa, .ref sg] _ _ E0
    refine rule_whenN TM hx hdx row.ng row.na whG rok (by omega) mgG fun G1 ms' g1 so ru => ⟨rfl, ?_⟩
    obtain ⟨kvR, dxR, twR, mdR, esR, rtR, hmR, mmR, nmR⟩ := id ru
    have lkg : kvg.length = ms.length := mvG.len
    have D1 : G1 D = some (.lst cg) := g1 _ _ cgG
    have sg1 : G1 sg = some (.dK kvg) := g1 _ _ sgG
    have du1 := g1 _ _ duG
    have dm1 := g1 _ _ dmG
    obtain ⟨B, eB⟩ : ∃ B, B = off (off G1 D) sg := ⟨_, rfl⟩
    have bk : ∀ b o, G1 b = some o → b ≠ D → b ≠ sg → B b = some o := fun b o e n1 n2 => by
      rw [eB]
      exact (off_ne n2).trans ((off_ne n1).trans e)
    have bT : ∀ b ys, G1 b = some (.tup ys) → B b = some (.tup ys) := fun b ys e => bk _ _ e (fun z => by rw [z, D1] at e; cases e) (fun z => by rw [z, sg1] at e; cases e)
    have bI : ∀ b C dx fs, G1 b = some (.ins C dx fs) → B b = some (.ins C dx fs) := fun b C dx fs e => bk _ _ e (fun z => by rw [z, D1] at e; cases e) (fun z => by rw [z, sg1] at e; cases e)
    have dmB : B dm = some (.dK kvg) := bk _ _ dm1 (fun z => by rw [z, D1] at dm1; cases dm1) ndm9
    have duB : B du = some (.lst [.str g, .str a, .ref t, .ref dm]) := bk _ _ du1 ndu9 (fun z => by rw [z, sg1] at du1; cases du1)
    have rB : ∀ {tt : Addr} {rr : List Row}, RowsAt K G1 tt rr → RowsAt K B tt rr := fun {tt rr} h => by
      obtain ⟨ys, e, r⟩ := h
      refine ⟨ys, bT _ _ e, r.keep (fun b zs e => bT _ _ e) fun p' q' h => ?_⟩
      obtain ⟨d, e⟩ := h
      exact ⟨d, bI _ _ _ _ e⟩
    have mdsg : mdR ≠ sg := fun z => by rw [z, sgG] at nmR; cases nmR
    have mddm : mdR ≠ dm := fun z => by rw [z, dmG] at nmR; cases nmR
    have dT : ∀ b ys, B b = some (.tup ys) → off B dm b = some (.tup ys) := fun b ys e => (off_ne (fun z => by rw [z, dmB] at e; cases e)).trans e
    have dI : ∀ b C dx fs, B b = some (.ins C dx fs) → off B dm b = some (.ins C dx fs) := fun b C dx fs e => (off_ne (fun z => by rw [z, dmB] at e; cases e)).trans e
    have ruD : RuleM K (off B dm) x g a rows ms' := by
      refine ⟨kvR, ⟨dxR, twR, mdR, dI _ _ _ _ (bI _ _ _ _ esR), ?_, (off_ne mddm).trans (bk _ _ hmR (fun z => by rw [z, D1] at hmR; cases hmR) mdsg)⟩, mmR.keep fun p' m' h => h.keep fun b C dx fs e => dI _ _ _ _ (bI _ _ _ _ e)⟩
      obtain ⟨ys, e, r⟩ := rB rtR
      refine ⟨ys, dT _ _ e, r.keep (fun b zs e => dT _ _ e) fun p' q' h => ?_⟩
      obtain ⟨d, e⟩ := h
      exact ⟨d, dI _ _ _ _ e⟩
    have ruB : RuleM K B x g a rows ms' := ruD.same off_le
    have dueB : DueAt K B du g a rows ms t dm kvg := ⟨duB, rB (tG.same g1), dmB, (mvG.same g1).keep (fun p' m' h => h.keep bI), row.mok.nd, by omega, by omega, fun r hr => ⟨names_z _ (row.sok.mem _ (row.cok r hr).nm), side_z (row.cok r hr).sd, (row.cok r hr).sz.mono (by decide)⟩, row.zg, row.za⟩
    have bG : Same B G1 := fun b o e => by
      rw [eB] at e
      exact (off_some (off_some e).2).2
    have sgB : B sg = none := by rw [eB]; exact off_at
    have DB : B D = none := by
      rw [eB]
      by_cases z : D = sg
      · rw [z]
        exact off_at
      · rw [off_ne z]
        exact off_at
    refine ⟨_, rfl, _, rfl, _, rfl, _, rfl, x, sg, du, t, dm, .ref pa, B, g, a, rows, ms, ms', kvg, kvg, rfl, bG, sgB, sg1, by omega, ?_, ruB, so, dueB, fun G2 g2 => ?_⟩
    · rcases hpa with rfl | e
      · exact .inl ⟨pa, cg, rfl, D1, by rw [ccsG.1]; omega, DB⟩
      · exact .inr ⟨pa, cg, rfl, g1 _ _ e⟩
    refine ⟨true, rfl, iteF ?_⟩
    have sgH1 : ∀ b o, off H1 p b = some o → b ≠ sg := fun b o e z => by
      rw [z] at e
      have q := s3 sg o (by rw [off_ne (off_some e).1]; exact kL sg o e sgD)
      rw [nsg] at q
      cases q
    have kB : Same (off H1 p) B := fun b o e => bk b o (g1 _ _ (kG b o e)) (fresh b o e) (sgH1 b o e)
    have RG2 : Rng G2 p := by
      obtain ⟨x', y', e, r⟩ := RG.same' g1
      exact ⟨x', y', g2 _ _ (bk p _ e Dp.symm sgp.symm), r⟩
    have row2 := row.same (H' := Zp p G2) fun b o e => Zp.mk (g2 _ _ (kB b o (by rw [off_ne (Zp.sm e).1]; exact (Zp.sm e).2.1))) (Zp.sm e).1 (Zp.sm e).2.2
    refine ⟨_, rfl, _, rfl, _, rfl, p, x, c, Ds, lc, Dm, kvs, kvm, xs, sp, rows, g, a, g, a, ms, ms', rfl, RG2, row2, (ruB.same g2).zp RG2, fun G3 g3 R3' => ?_⟩
    refine ⟨true, rfl, iteF ?_⟩
    have Bp : Same (off B p) G3 := fun b o e => g3 b o (by rw [off_ne (off_some e).1]; exact g2 _ _ (off_some e).2)
    have k3 : ∀ b o, B b = some o → b ≠ p → G3 b = some o := fun b o e n => Bp b o (by rw [off_ne n]; exact e)
    have kR : Same (off H1 p) G3 := fun b o e => k3 b o (kB b o e) (off_some e).1
    obtain ⟨eA, et, rfl, ety, ekt, esq⟩ := X.e0
    have whE : ∀ F, WhenAt K F eA [] := fun F => ⟨[], et, ety F, ekt, .inr (esq F), .nil⟩
    have okE : RowsOk ([] : List Row) := fun r hr => by cases hr
    have rk3 : ∀ F, Same G3 F → SqT K F c [.ref Ds, .ref lc, .str g, .str a, .ref Dm] := fun F s => rowIx F fun b o e => s _ _ (kR b o e)
    have r3 : Same G3 G3 := fun _ _ e => e
    -- a rule without conditions
    refine ⟨_, rfl, c, _, _, _, rfl, rfl, rk3 G3 r3, rfl, _, rfl, c, _, _, _, rfl, rfl, rk3 G3 r3, rfl, rfl, rfl, fun x1 dx1 hx1 hd1 ne1 => ?_⟩
    change spRuleI K [.ref x1, .str g, .str a, .ref eA, .non] _ _ E0
    refine rule_when TM hx1 hd1 row.ng row.na (whE _) okE (by show 0 ≤ 8; decide) .non fun G4 m4 g4 so4 ru4 => ⟨rfl, ?_⟩
    obtain ⟨kv4, ⟨dx4, tw4, md4, es4, _⟩, _⟩ := id ru4
    refine ⟨x1, dx4, _, rfl, es4, rfl, x1, g, a, [], m4, rfl, ru4, fun t4 rt4 => ?_⟩
    refine ⟨(by show 0 ≤ sizeLine; decide), fun t5 nt5 => ?_⟩
    have u5 := same_new (o := .tup []) nt5
    have q5 := rows_eqB (rt4.same u5) ⟨[], upd_same, RowsL.nil⟩
    rw [decide_eq_true rfl] at q5
    refine ⟨true, q5, fun G6 s6 => ⟨_, rfl, iteF ?_⟩⟩
    have s36 : Same G3 G6 := (g4.trans u5).trans s6
    -- a rule without moves
    refine ⟨_, rfl, c, _, _, _, rfl, rfl, rk3 G6 s36, rfl, _, rfl, c, _, _, _, rfl, rfl, rk3 G6 s36, rfl, rfl, rfl, fun x2 dx2 hx2 hd2 ne2 => ?_⟩
    change spRuleI K [.ref x2, .str g, .str a, .ref eA, .non] _ _ E0
    refine rule_when TM hx2 hd2 row.ng row.na (whE _) okE (by show 0 ≤ 8; decide) .non fun G7 m7 g7 so7 ru7 => ⟨rfl, ?_⟩
    obtain ⟨kv7, ⟨dx7, tw7, md7, es7, _⟩, _⟩ := id ru7
    refine ⟨x2, dx7, _, rfl, es7, rfl, x2, g, a, [], m7, rfl, ru7, fun d8 kv8 G8 g8 nd8 hd8 mv8 => ?_⟩
    have e7 : m7 = [] := List.perm_nil.mp so7.1
    have e8 : kv8 = [] := List.length_eq_zero_iff.mp (by rw [mv8.len, e7]; rfl)
    subst e8
    intro d9 nd9
    have u9 := same_new (o := .dK []) nd9
    refine ⟨true, ⟨d8, d9, [], [], rfl, rfl, u9 _ _ hd8, upd_same, fun z => absurd rfl z, fun _ => .nil⟩, fun G10 s10 => ⟨_, rfl, iteF ?_⟩⟩
    have s310 : Same G3 G10 := (((s36.trans g7).trans g8).trans u9).trans s10
    have dn3 : du ≠ p := dup
    have du3 : G3 du = some (.lst [.str g, .str a, .ref t, .ref dm]) := k3 _ _ duB dup
    have dm3' : G3 dm = some (.dK kvg) := k3 _ _ dmB dmp
    have RBp : Rng B p := by
      obtain ⟨x', y', e, r⟩ := RG.same' g1
      exact ⟨x', y', bk p _ e Dp.symm sgp.symm, r⟩
    have kT : ∀ b ys, B b = some (.tup ys) → G3 b = some (.tup ys) := fun b ys e => k3 _ _ e (RBp.ne e)
    have kI : ∀ b C dx fs, B b = some (.ins C dx fs) → G3 b = some (.ins C dx fs) := fun b C dx fs e => k3 _ _ e (RBp.ne_ins e)
    have t3 : RowsAt K G3 t rows := by
      obtain ⟨ys, e, r⟩ := dueB.t
      refine ⟨ys, kT _ _ e, r.keep (fun b zs e => kT _ _ e) fun p' q' h => ?_⟩
      obtain ⟨d, e⟩ := h
      exact ⟨d, kI _ _ _ _ e⟩
    have D3 : DueAt K G3 du g a rows ms t dm kvg := { dueB with
      du := du3
      t := t3
      dm := dm3'
      mv := dueB.mv.keep fun p' m' h => h.keep kI }
    have ru3 : RuleM K (off G3 dm) x g a rows ms' := by
      obtain ⟨kv', ⟨d', tw', md', e1, ⟨ys, e2, r2⟩, e3⟩, mm'⟩ := ruD
      have oT : ∀ b ys, off B dm b = some (.tup ys) → off G3 dm b = some (.tup ys) := fun b ys e => (off_ne (off_some e).1).trans (kT _ _ (off_some e).2)
      have oI : ∀ b C dx fs, off B dm b = some (.ins C dx fs) → off G3 dm b = some (.ins C dx fs) := fun b C dx fs e => (off_ne (off_some e).1).trans (kI _ _ _ _ (off_some e).2)
      refine ⟨kv', ⟨d', tw', md', oI _ _ _ _ e1, ⟨ys, oT _ _ e2, r2.keep (fun b zs e => oT _ _ e) fun p' q' h => ?_⟩, (off_ne (off_some e3).1).trans (k3 _ _ (off_some e3).2 ((Zp.sm (RBp.zp_dK (off_some e3).2)).1))⟩, mm'.keep fun p' m' h => h.keep oI⟩
      obtain ⟨d, e⟩ := h
      exact ⟨d, oI _ _ _ _ e⟩
    have ap : Apart K G3 x du t dm g a rows ms ms' kvg := ⟨D3, ru3, so, row.ng, row.na, rok, row.mok.mem, fun r hr => row.sok.mem _ (row.cok r hr).nm, fun r hr => (row.cok r hr).sz, row.mok.ok, row.mok.l3⟩
    have ap10 := ap.same s310
    have duI : ∀ F, Same G10 F → SqL K F du [.str g, .str a, .ref t, .ref dm] := fun F s => SqL.of (s _ _ (s310 _ _ du3))
    have rx10 : RuleM K G10 x g a rows ms' := ap10.ru.same off_le
    refine ⟨fun z F => z = [some (.ref p), some (.ref c), some (.ref D), some (.ref sg), some (.ref du), some (.ref pa), some (.ref x), none, none] ∧ Same G10 F, ?_, ?_⟩
    · refine ⟨_, rfl, du, _, _, _, rfl, rfl, duI G10 (fun _ _ e => e), rfl, (by show 0 ≤ sizeLine; decide), fun t11 nt11 => ?_⟩
      have u11 := same_new (o := .tup []) nt11
      have q11 := rows_eqB ((t3.same s310).same u11) ⟨[], upd_same, RowsL.nil⟩
      refine ⟨_, q11, fun G12 s12 => ⟨_, rfl, ?_⟩⟩
      have s1012 := u11.trans s12
      by_cases hz : rows = []
      · rw [decide_eq_true hz]
        exact iteF (iteF ⟨rfl, s1012⟩)
      · rw [decide_eq_false hz]
        refine iteT ?_
        obtain ⟨ys, et2, ry⟩ := (t3.same s310).same s1012
        have lyr : ys.length = rows.length := ry.1
        have rpos : 0 < rows.length := List.length_pos_iff.mpr hz
        refine ⟨_, rfl, _, rfl, du, _, _, _, rfl, rfl, duI G12 s1012, rfl, _, rfl, du, _, _, _, rfl, rfl, duI G12 s1012, rfl, _, rfl, du, _, _, _, rfl, rfl, duI G12 s1012, rfl, _, rfl, t, ys, rfl, SqT.of et2, ?_, fun tb ntb => ?_⟩
        · rw [show (1 : Int) = ((1 : Nat) : Int) from rfl, HT.sIx_nat]
          omega
        have cb : cutV ys (some (1 : Int)) none = ys.drop 1 := by
          unfold cutV
          rw [show (1 : Int) = ((1 : Nat) : Int) from rfl, HT.sIx_nat, HT.sIx_none, show min 1 ys.length = 1 from by omega]
          exact List.take_of_length_le (by rw [List.length_drop]; exact Nat.le_refl _)
        rw [cb]
        have ub := same_new (o := .tup (ys.drop 1)) ntb
        have htb : upd G12 tb (.tup (ys.drop 1)) tb = some (.tup (ys.drop 1)) := upd_same
        have rl13 := ry.same ub
        generalize upd G12 tb (.tup (ys.drop 1)) = G13 at ub htb rl13 ⊢
        have s1013 := s1012.trans ub
        have rD : RowsL K G13 (ys.drop 1) (rows.drop 1) := ⟨by rw [List.length_drop, List.length_drop, lyr], fun i v r e1 e2 => by
          rw [List.getElem?_drop] at e1 e2
          exact rl13.2 (1 + i) v r e1 e2⟩
        refine ⟨_, rfl, du, _, _, _, rfl, rfl, duI G13 s1013, rfl, rfl, rfl, fun x3 dx3 hx3 hd3 ne3 => ?_⟩
        change spRuleI K [.ref x3, .str g, .str a, .ref tb, .ref dm] _ _ E0
        have mg13 : MovesGiven K G13 (.ref dm) ms := .inr ⟨dm, kvg, rfl, s1013 _ _ (s310 _ _ dm3'), D3.mv.same (s310.trans s1013), D3.l64, D3.nd, nmS⟩
        refine rule_when TM hx3 hd3 row.ng row.na (RowsAt.when ⟨_, htb, rD⟩) (fun r hr => rok r (List.mem_of_mem_drop hr)) (by rw [List.length_drop]; omega) mg13 fun G14 m14 g14 so14 ru14 => ⟨rfl, own_eq Z.U (rx10.same (s1013.trans g14)) ru14 fun G15 g15 => ⟨_, rfl, ?_⟩⟩
        rw [ruleEq_w (fun z => by
          have q := congrArg List.length z
          rw [List.length_drop] at q
          omega)]
        exact iteF ⟨rfl, (s1013.trans g14).trans g15⟩
    rintro z F ⟨rfl, sF⟩
    have apF := ap10.same sF
    refine ⟨_, rfl, _, rfl, x, du, t, dm, g, a, rows, ms, ms', kvg, rfl, apF, gz, az, fun F1 f1 => ⟨true, rfl, iteF ?_⟩⟩
    refine ⟨_, rfl, _, rfl, x, du, t, dm, g, a, rows, ms, ms', kvg, rfl, apF.same f1, fun F2 f2 => ⟨true, rfl, iteF ?_⟩⟩
    have ap2 := (apF.same f1).same f2
    have rx2 : RuleM K F2 x g a rows ms' := ap2.ru.same off_le
    have D2' := ap2.D
    refine ⟨_, rfl, x, g, a, rows, ms', rfl, rx2, fun l1 t1 d1 F3 f3 n3 e3 rt3 => ?_⟩
    refine ⟨_, rfl, l1, _, rfl, SqL.of e3, fun l2 nl2 => ?_⟩
    have v2 := same_new (o := .lst [V.str g, .str a, .ref t1]) nl2
    refine .inr (.inl ⟨l2, t1, g, a, rows, rfl, upd_same, D2'.zg, D2'.za, rt3.same v2, D2'.z, D2'.l8, fun F4 f4 => ?_⟩)
    have f24 := (f3.trans v2).trans f4
    refine ⟨_, rfl, _, rfl, du, _, rfl, SqL.of (f24 _ _ D2'.du), fun l3 nl3 => ?_⟩
    have v3 := same_new (o := .lst [V.str g, .str a, .ref t]) nl3
    refine .inr (.inl ⟨l3, t, g, a, rows, rfl, upd_same, D2'.zg, D2'.za, (D2'.t.same f24).same v3, D2'.z, D2'.l8, fun F5 f5 => ?_⟩)
    refine ⟨rfl, _, rfl, ?_⟩
    have e0 : (decide (V.str (partsText g a rows) = V.str (partsText g a rows))) = true := by simp
    rw [e0]
    refine iteT ?_
    have f25 := (f24.trans v3).trans f5
    have rx5 := rx2.same f25
    obtain ⟨kv5, ⟨dx5, tw5, md5, es5, _⟩, _⟩ := id rx5
    refine ⟨_, rfl, x, dx5, _, rfl, es5, rfl, x, g, a, rows, ms', rfl, rx5, fun d6 kv6 F6 f6 n6 e6 m6 => ?_⟩
    have f26 := f25.trans f6
    refine ⟨_, rfl, du, _, _, _, rfl, rfl, SqL.of (f26 _ _ D2'.du), rfl, ?_⟩
    refine ⟨_, mvs_dict e6 (f26 _ _ D2'.dm) m6 (D2'.mv.same f26), fun F7 f7 => ?_⟩
    rw [mvEq_perm D2'.nd so.1]
    refine k F7 fun b o e => ?_
    exact f7 _ _ (f26 _ _ (f2 _ _ (f1 _ _ (sF _ _ (s310 _ _ (kR b o (by rw [off_ne (off_some e).1]; exact s1 b o e)))))))
end
end K18
set_option maxHeartbeats 8000000
namespace K18
open PySem PySem.Spec PyProof.Rows L2 GL StX
abbrev sSeq : Stmt := tp 67
abbrev sLaw : Stmt := tp 68
section
variable {P : Program} {w : World} {K : PySem.W.Frag} {mg : Str → Option Value} {base : Heap}
def spSeq : Sp := fun vs H Q _ => vs = [] ∧ ∀ H', Same H H' → Q (.bl true) H'
def DefGx (P : Program) (w : World) (K : PySem.W.Frag) (mg : Str → Option Value) (base : Heap) (x : Str) (k : Nat) (ps : List Str) (sp : Sp) : Prop := ∃ f fd, FnG P w K mg base CX0 k f fd ps sp ∧ mg x = some (.ref f) ∧ Binds K fd ps [] ∧ PySem.W.keepIn K (.ref f) = true
def spLaw (K : PySem.W.Frag) : Sp := fun vs H Q _ => ∃ (a : Addr) (ns : List Int), vs = [.ref a] ∧ SqL K H a (ns.map V.int) ∧ ns.length ≤ 63 ∧ ∀ H', Q (.bl true) H'
theorem scLaw : FnScope ["_law_script", "_law_index"] ["_law_script"] (defScope sLaw) := ⟨rfl, rfl, rfl, by decide +kernel, rfl, by decide +kernel, by decide +kernel⟩
theorem ok_law {f : Addr} {fd : FuncData} (F : Fun K "law" "law" sLaw f fd) (M : Free mg) (rg : DefF P w K mg base "_law_pot" 1 ["_law_script", "_law_index"] (spRng K)) (sq : DefF P w K mg base "_law_sequence_right" 9 [] spSeq) (rt : DefGx P w K mg base "_law_right" 10 ["_law_pot_here"] (spRight K)) :
    FnG P w K mg base CX0 11 f fd ["_law_script"] (spLaw K) := by
  obtain ⟨fG, fdG, GG, gG, bG, kG⟩ := rg
  obtain ⟨fS, fdS, GS_, gS, bS, kS⟩ := sq
  obtain ⟨fR, fdR, GR, gR, bR, kR⟩ := rt
  refine Fun.okG F scLaw (fun vs H Q E h => ?_) (fun cdv A outer s H vs Q E gd hr h => ?_)
  · obtain ⟨a, ns, rfl, _⟩ := h
    rfl
  · obtain ⟨a, ns, rfl, hS, hn, k⟩ := h
    have hr1 : Room 1 _ := hr.mono (show 1 ≤ 10 by decide)
    refine ⟨_, pss_cons (ps_if (pt_not (pt_val (pe_callG0 (FnG.of GS_) gd (hr.mono (show 9 ≤ 10 by decide)) rfl gS kS bS .nil pass0))) (pss_one (ps_ret pe_bl)) pss_nil)
      (pss_one (ps_ret (pe_callB (cr_all rfl) (by rfl) M.all (by decide +kernel) (pa_cons (pe_lc (own := [("_law_index", 1)]) (g := gName 1) (tt := tYes) (te := tCall (spRight K) [] E0 (tCons (tCall (spRng K) [] E0 (tCons (tVar 0) (tCons (tVar 1) tNil))) tNil)) rfl scLaw.nd
      (pi_range1 (by rfl) M.range (pa_cons (pe_callB (call_max2 rfl) (by rfl) M.max (by decide +kernel) (pa_cons pe_int (pa_cons (pe_callB (call_min2 rfl) (by rfl) M.min (by decide +kernel) (pa_cons (pe_callB call_len_seq (by rfl) M.len PySem.boot_len (pa_cons (pv 0) pa_nil)) (pa_cons pe_int pa_nil))) pa_nil))) pa_nil))
      (blkOk_by (own := [("_law_index", 1)]) (N := ["_law_script", "_law_index"]) (sc := defScope sLaw) (by decide +kernel)) (fun _ _ _ _ _ => pg_name (i := 1) scLaw.nd rfl (Or.inl rfl)) (fun _ _ _ _ _ => pts_nil)
      (fun _ _ _ _ _ => by exact (pe_callG GR gd hr rfl gR kR bR .nil pass0 (pa_cons (pe_call GG hr1 rfl gG kG bG .nil pass0 (pa_cons (pv 0) (pa_cons (pv 1) pa_nil))) pa_nil)))) pa_nil)))), ?_⟩
    refine ⟨rfl, fun H0 s0 => ⟨true, rfl, iteF ?_⟩⟩
    have hS0 : SqL K H0 a (ns.map V.int) := L2.SqL.ext hS s0
    refine ⟨_, rfl, _, _, rfl, .inl hS0, ?_⟩
    rw [List.length_map]
    have bd : ∀ z : Int, 0 ≤ z → z ≤ 63 → 0 ≤ (if (if 4 < z then 4 else z) > 1 then (if 4 < z then 4 else z) else 1) ∧ (if (if 4 < z then 4 else z) > 1 then (if 4 < z then 4 else z) else 1) ≤ 4 := by
      intro z h0 h1
      split <;> split <;> omega
    have b := bd ns.length (by omega) (by omega)
    refine ⟨_, _, rfl, _, _, rfl, _, rfl, Int.le_trans (by decide) b.1, Int.lt_of_le_of_lt b.2 (by decide), fun D hD => ?_⟩
    generalize (if (if 4 < (ns.length : Int) then 4 else (ns.length : Int)) > 1 then (if 4 < (ns.length : Int) then 4 else (ns.length : Int)) else 1) = z at b ⊢
    refine lc_range (lo := 0) (n := z.toNat) (fun i G => G D = some (.lst (List.replicate i (.bl true))) ∧ Same H0 G) ⟨upd_same, same_new hD⟩ ?_ ?_
    · rintro i G hi ⟨h2, s2⟩
      refine ⟨rfl, ?_⟩
      refine ⟨_, rfl, _, rfl, a, ns, _, rfl, L2.SqL.ext hS0 s2, by omega, by omega, fun p G1 np s3 hp => ?_⟩
      refine ⟨p, rfl, hp, fun G2 x2 => ?_⟩
      have x12 : Same G G2 := fun y o e => x2 y o (by rw [off_ne (ne_of_none e np)]; exact s3 _ _ e)
      have h3 := x12 _ _ h2
      refine ⟨_, h3, (by rw [List.length_replicate, sizeLine_eq]; omega), ?_, fun y o e => ?_⟩
      · rw [upd_same, List.replicate_succ']
      · rw [upd_ne (ne_of_none e hD)]
        exact x12 _ _ (s2 _ _ e)
    · rintro G ⟨h2, _⟩
      refine ⟨D, List.replicate z.toNat true, rfl, SqL.of (by rw [h2, List.map_replicate]), ?_⟩
      have e : (List.replicate z.toNat true).all id = true := by simp
      rw [e]
      exact k _
end
end K18
set_option maxHeartbeats 8000000
namespace K18
open PySem PySem.Spec PyProof.Rows L2 GL StX
theorem op_isnB {X : Cx} : OpR X (compareOp .IsNot) (fun x y H Q => ∃ a b, x = .bl a ∧ y = .bl b ∧ Q (.bl !(a == b)) H) := by
  intro pins s z H x y v u Q I rx ry h
  obtain ⟨a, b, rfl, rfl, q⟩ := h
  cases rx
  cases ry
  cases a <;> cases b <;> exact wpAny_pure (fin_bl I q rfl)
section
variable {P : Program} {w : World} {K : PySem.W.Frag} {mg : Str → Option Value} {base : Heap}
def rowsK (i : Nat) : List Row := (List.range i).map fun (j : Nat) => (("x" : Str), ("from" : Str), ((0 + (j : Int) : Int) : Rat))
def rows8 : List Row := rowsK 7 ++ [(("y" : Str), ("to" : Str), ((3 : Int) : Rat))]
def lvOf (x y : Rat) : Str → Option Rat := fun u => [(("x" : Str), x), ("y", y)].lookup u
theorem all1 : rows8.all (trB (lvOf ((9 : Int) : Rat) ((3 : Int) : Rat))) = true := by decide +kernel
theorem all2 : rows8.all (trB (lvOf ((9 : Int) : Rat) (Rat.divInt 13 4))) = false := by decide +kernel
theorem all3 : rows8.all (trB (lvOf ((5 : Int) : Rat) ((3 : Int) : Rat))) = false := by decide +kernel
theorem has8 {x y : Rat} : ∀ r ∈ rows8, lvOf x y r.1 ≠ none := by
  have h : (rows8.all fun r => decide (r.1 = "x") || decide (r.1 = "y")) = true := by decide +kernel
  intro r hr
  have z := List.all_eq_true.mp h r hr
  rw [Bool.or_eq_true, decide_eq_true_eq, decide_eq_true_eq] at z
  have ny : (("y" : Str) == ("x" : Str)) = false := by decide +kernel
  rcases z with z | z
  · rw [z]
    unfold lvOf
    simp [List.lookup]
  · rw [z]
    unfold lvOf
    simp [List.lookup, ny]
theorem ok8 : RowsOk rows8 := fun r hr => by
  have h : (rows8.all fun r => nameD r.1 && sideB r.2.1) = true := by decide +kernel
  have z := List.all_eq_true.mp h r hr
  rw [Bool.and_eq_true] at z
  exact ⟨NameS.of z.1, z.2⟩
theorem sz8 : ∀ r ∈ rows8, Sz 30 r.2.2 := fun r hr => by
  have h : (rows8.all fun r => decide (r.2.2.num.natAbs < 2 ^ 30 ∧ r.2.2.den < 2 ^ 30)) = true := by decide +kernel
  show r.2.2.num.natAbs < 2 ^ 30 ∧ r.2.2.den < 2 ^ 30
  exact of_decide_eq_true (List.all_eq_true.mp h r hr)
theorem first7 : ∀ i : Fin 7, (rows8[i.1]?.map (·.1)) = some ("x" : Str) := by decide +kernel
theorem nth7 : rows8[7]? = some (("y" : Str), ("to" : Str), ((3 : Int) : Rat)) := by decide +kernel
theorem ny_x : (("y" : Str) == ("x" : Str)) = false := by decide +kernel
abbrev nSeq : List Str := ["_law_first", "_law_second", "_law_pairs", "_law_one", "_law_beside", "_law_eight", "_law_k"]
theorem scSeq : FnScope nSeq [] (defScope sSeq) := ⟨rfl, rfl, rfl, by decide +kernel, rfl, by decide +kernel, by decide +kernel⟩
theorem ok_seq {f : Addr} {fd : FuncData} (F : Fun K "_law_sequence_right" "_law_sequence_right" sSeq f fd) (Z : MkU P w K mg base) (Y : LTo P w K mg base) (T : Free mg) (to : DefF P w K mg base "_law_told" 8 ["_law_rule", "_law_numbers"] (spTold K)) : FnOk P w K mg base CX0 9 f fd [] spSeq := by
  obtain ⟨fU1, fdU1, gU1, MU1, GU1, KU1⟩ := Z.mU1
  obtain ⟨fE, oE, GE⟩ := Z.eq
  obtain ⟨fR, fdR, dR, MR, GR, vdR, bR, bR0⟩ := Z.G.mR
  obtain ⟨fT, fdT, GT_, gT, bT, kT⟩ := to
  obtain ⟨fA, fdA, mA, GA_, bA⟩ := Y.ap
  have TM := Z.M.T
  have TR := Z.G.T
  have U := Z.U.U
  have G1 := K18.FnOk.ground GU1
  refine F.ok scSeq (fun vs H Q E h => ?_) (fun cdv A outer s H vs Q E hr h => ?_)
  · obtain ⟨rfl, _⟩ := h
    rfl
  · obtain ⟨rfl, k⟩ := h
    have hu := hr.units
    have r6 := hr.mono (show 6 ≤ 8 by decide)
    have r5 := hr.mono (show 5 ≤ 8 by decide)
    refine ⟨_, (pss_cons (ps_asg (pe_tup (pa_cons (pe_tup (pa_cons pe_str (pa_cons pe_str (pa_cons pe_int pa_nil)))) (pa_cons (pe_tup (pa_cons pe_str (pa_cons pe_str (pa_cons pe_int pa_nil)))) pa_nil))) (pg_tup (by rfl) (pgs_cons (pg_name (i := 0) scSeq.nd rfl (.inl rfl)) (pgs_cons (pg_name (i := 1) scSeq.nd rfl (.inl rfl)) pgs_nil))))
      (pss_cons (ps_set (i := 2) scSeq.nd rfl (Or.inl rfl) (pe_lst (pa_cons (pe_tup (pa_cons (pe_lst (pa_cons (pv 0) (pa_cons (pv 1) pa_nil))) (pa_cons (pe_lst (pa_cons (pv 1) (pa_cons (pv 0) pa_nil))) pa_nil))) (pa_cons (pe_tup (pa_cons (pe_lst (pa_cons (pv 0) (pa_cons (pv 0) (pa_cons (pv 1) pa_nil)))) (pa_cons (pe_lst (pa_cons (pv 0) (pa_cons (pv 1) (pa_cons (pv 1) pa_nil)))) pa_nil))) pa_nil))))
      (pss_cons (ps_for PassesOwn.never rfl (pi_list (pv 2)) (pg_tup (by rfl) (pgs_cons (pg_name (i := 3) scSeq.nd rfl (.inl rfl)) (pgs_cons (pg_name (i := 4) scSeq.nd rfl (.inl rfl)) pgs_nil))) (pss_one (ps_if (pt_cmpR (op_eqO oE GE r5 pass0) (pe_makeK (ks := ["when"]) MU1 G1 r6 rfl U.gU KU1 pass0 (pa_cons pe_str (pa_cons pe_str pa_nil)) (pk_cons (pv 3) pk_nil)) (pe_makeK (ks := ["when"]) MU1 G1 r6 rfl U.gU KU1 pass0 (pa_cons pe_str (pa_cons pe_str pa_nil)) (pk_cons (pv 4) pk_nil)) (nomark _)) (pss_one (ps_ret pe_bl)) pss_nil)))
      (pss_cons (ps_set (i := 5) scSeq.nd rfl (Or.inl rfl) (pe_makeK (ks := ["when"]) MU1 G1 r6 rfl U.gU KU1 pass0 (pa_cons pe_str (pa_cons pe_str pa_nil)) (pk_cons (pe_op op_cat (pe_lc (own := [("_law_k", 6)]) (g := gName 6) (tt := tYes) rfl scSeq.nd (pi_range1 (by rfl) T.range (pa_cons pe_int pa_nil)) (blkOk_by (own := [("_law_k", 6)]) (N := nSeq) (sc := defScope sSeq) (by decide +kernel)) (fun _ _ _ _ _ => pg_name (i := 6) scSeq.nd rfl (Or.inl rfl)) (fun _ _ _ _ _ => pts_nil) (fun _ _ _ _ _ => by exact (pe_tup (pa_cons pe_str (pa_cons pe_str (pa_cons (pv 6) pa_nil)))))) (pe_lst (pa_cons (pe_tup (pa_cons pe_str (pa_cons pe_str (pa_cons pe_int pa_nil)))) pa_nil))) pk_nil)))
      (pss_cons (ps_if (PW.pt (pw_or (pt_cmpR op_isnB (pe_meth (pv 5) U.cl mA (K18.FnOk.ground GA_) (hr.mono (by decide)) bA .nil pass0 (pa_cons (pe_disp (pps_cons pe_str pe_int (pps_cons pe_str pe_int pps_nil)) (by rfl) (by rfl) (fun z => by cases z) (by decide)) pa_nil)) pe_bl (nomark _)) (pw_or1 (pt_cmpR op_isnB (pe_meth (pv 5) U.cl mA (K18.FnOk.ground GA_) (hr.mono (by decide)) bA .nil pass0 (pa_cons (pe_disp (pps_cons pe_str pe_int (pps_cons pe_str (pe_make MR GR (hr.mono (by decide)) rfl TR.gR bR0 .nil pass0 (pa_cons pe_int (pa_cons pe_int pa_nil))) pps_nil)) (by rfl) (by rfl) (fun z => by cases z) (by decide)) pa_nil)) pe_bl (nomark _))))) (pss_one (ps_ret pe_bl)) pss_nil)
      (pss_cons (ps_if (pt_cmpR op_isnB (pe_meth (pv 5) U.cl mA (K18.FnOk.ground GA_) (hr.mono (by decide)) bA .nil pass0 (pa_cons (pe_disp (pps_cons pe_str pe_int (pps_cons pe_str pe_int pps_nil)) (by rfl) (by rfl) (fun z => by cases z) (by decide)) pa_nil)) pe_bl (nomark _)) (pss_one (ps_ret pe_bl)) pss_nil)
      (pss_one (ps_ret (pe_cmpR (op_eqL monB_self eqB_self (hr.mono (by decide))) (pe_call GT_ (hr.mono (by decide)) rfl gT kT bT .nil pass0 (pa_cons (pv 5) (pa_cons (pe_disp (pps_cons pe_str pe_int pps_nil) (by rfl) (by rfl) (fun z => by cases z) (by decide)) pa_nil))) (pe_lst (pa_cons pe_str (pa_cons pe_str (pa_cons pe_bl (pa_cons pe_bl pa_nil))))) (nomark _)))))))))), ?_⟩
    refine ⟨(by show 3 ≤ sizeLine; decide), fun t1 nt1 => ?_⟩
    have u1 := same_new (o := .tup [V.str "x", .str "from", .int 1]) nt1
    have h1 : upd H t1 (.tup [V.str "x", .str "from", .int 1]) t1 = some (.tup [V.str "x", .str "from", .int 1]) := upd_same
    generalize upd H t1 (.tup [V.str "x", .str "from", .int 1]) = A1 at u1 h1 ⊢
    refine ⟨(by show 3 ≤ sizeLine; decide), fun t2 nt2 => ?_⟩
    have u2 := same_new (o := .tup [V.str "x", .str "to", .int 5]) nt2
    have h2 : upd A1 t2 (.tup [V.str "x", .str "to", .int 5]) t2 = some (.tup [V.str "x", .str "to", .int 5]) := upd_same
    generalize upd A1 t2 (.tup [V.str "x", .str "to", .int 5]) = A2 at u2 h2 ⊢
    refine ⟨(by show 2 ≤ sizeLine; decide), fun t0 nt0 => ?_⟩
    have u3 := same_new (o := .tup [V.ref t1, .ref t2]) nt0
    have h0 : upd A2 t0 (.tup [V.ref t1, .ref t2]) t0 = some (.tup [V.ref t1, .ref t2]) := upd_same
    generalize upd A2 t0 (.tup [V.ref t1, .ref t2]) = A3 at u3 h0 ⊢
    refine ⟨t0, _, rfl, SqT.of h0, rfl, _, _, rfl, _, _, rfl, rfl, ?_⟩
    refine ⟨_, rfl, _, rfl, (by show 2 ≤ sizeLine; decide), fun l1 nl1 => ?_⟩
    have u4 := same_new (o := .lst [V.ref t1, .ref t2]) nl1
    have e1 : upd A3 l1 (.lst [V.ref t1, .ref t2]) l1 = some (.lst [V.ref t1, .ref t2]) := upd_same
    generalize upd A3 l1 (.lst [V.ref t1, .ref t2]) = A4 at u4 e1 ⊢
    refine ⟨_, rfl, _, rfl, (by show 2 ≤ sizeLine; decide), fun l2 nl2 => ?_⟩
    have u5 := same_new (o := .lst [V.ref t2, .ref t1]) nl2
    have e2 : upd A4 l2 (.lst [V.ref t2, .ref t1]) l2 = some (.lst [V.ref t2, .ref t1]) := upd_same
    generalize upd A4 l2 (.lst [V.ref t2, .ref t1]) = A5 at u5 e2 ⊢
    refine ⟨(by show 2 ≤ sizeLine; decide), fun p1 np1 => ?_⟩
    have u6 := same_new (o := .tup [V.ref l1, .ref l2]) np1
    have q1 : upd A5 p1 (.tup [V.ref l1, .ref l2]) p1 = some (.tup [V.ref l1, .ref l2]) := upd_same
    generalize upd A5 p1 (.tup [V.ref l1, .ref l2]) = A6 at u6 q1 ⊢
    refine ⟨_, rfl, _, rfl, _, rfl, (by show 3 ≤ sizeLine; decide), fun l3 nl3 => ?_⟩
    have u7 := same_new (o := .lst [V.ref t1, .ref t1, .ref t2]) nl3
    have e3 : upd A6 l3 (.lst [V.ref t1, .ref t1, .ref t2]) l3 = some (.lst [V.ref t1, .ref t1, .ref t2]) := upd_same
    generalize upd A6 l3 (.lst [V.ref t1, .ref t1, .ref t2]) = A7 at u7 e3 ⊢
    refine ⟨_, rfl, _, rfl, _, rfl, (by show 3 ≤ sizeLine; decide), fun l4 nl4 => ?_⟩
    have u8 := same_new (o := .lst [V.ref t1, .ref t2, .ref t2]) nl4
    have e4 : upd A7 l4 (.lst [V.ref t1, .ref t2, .ref t2]) l4 = some (.lst [V.ref t1, .ref t2, .ref t2]) := upd_same
    generalize upd A7 l4 (.lst [V.ref t1, .ref t2, .ref t2]) = A8 at u8 e4 ⊢
    refine ⟨(by show 2 ≤ sizeLine; decide), fun p2 np2 => ?_⟩
    have u9 := same_new (o := .tup [V.ref l3, .ref l4]) np2
    have q2 : upd A8 p2 (.tup [V.ref l3, .ref l4]) p2 = some (.tup [V.ref l3, .ref l4]) := upd_same
    generalize upd A8 p2 (.tup [V.ref l3, .ref l4]) = A9 at u9 q2 ⊢
    refine ⟨(by show 2 ≤ sizeLine; decide), fun pl npl => ?_⟩
    have u10 := same_new (o := .lst [V.ref p1, .ref p2]) npl
    have epl : upd A9 pl (.lst [V.ref p1, .ref p2]) pl = some (.lst [V.ref p1, .ref p2]) := upd_same
    generalize upd A9 pl (.lst [V.ref p1, .ref p2]) = A10 at u10 epl ⊢
    have c1 : A10 t1 = some (.tup [V.str "x", .str "from", .int 1]) := (u10 _ _ (u9 _ _ (u8 _ _ (u7 _ _ (u6 _ _ (u5 _ _ (u4 _ _ (u3 _ _ (u2 _ _ h1)))))))))
    have c2 : A10 t2 = some (.tup [V.str "x", .str "to", .int 5]) := (u10 _ _ (u9 _ _ (u8 _ _ (u7 _ _ (u6 _ _ (u5 _ _ (u4 _ _ (u3 _ _ h2))))))))
    obtain ⟨rF, eF⟩ : ∃ rF : Row, rF = (("x" : Str), ("from" : Str), ((1 : Int) : Rat)) := ⟨_, rfl⟩
    obtain ⟨rT, eT⟩ : ∃ rT : Row, rT = (("x" : Str), ("to" : Str), ((5 : Int) : Rat)) := ⟨_, rfl⟩
    have ft : rF ≠ rT := by
      rw [eF, eT]
      decide +kernel
    have okF : NameS rF.1 ∧ sideB rF.2.1 = true := by rw [eF]; exact ⟨NameS.of (by decide +kernel), by decide +kernel⟩
    have okT : NameS rT.1 ∧ sideB rT.2.1 = true := by rw [eT]; exact ⟨NameS.of (by decide +kernel), by decide +kernel⟩
    have ok : ∀ rs : List Row, (∀ r ∈ rs, r = rF ∨ r = rT) → RowsOk rs := fun rs h r hr => by
      rcases h r hr with z | z
      · rw [z]; exact okF
      · rw [z]; exact okT
    have sF : ∀ {xs : List V} {rs : List Row}, CondsAt K A10 xs rs → CondsAt K A10 (xs ++ [.ref t1]) (rs ++ [rF]) := fun h => h.snoc (num := .int 1) (by rw [eF]; exact c1) (by rw [eF]; exact .inl ⟨1, rfl, rfl⟩)
    have sT : ∀ {xs : List V} {rs : List Row}, CondsAt K A10 xs rs → CondsAt K A10 (xs ++ [.ref t2]) (rs ++ [rT]) := fun h => h.snoc (num := .int 5) (by rw [eT]; exact c2) (by rw [eT]; exact .inl ⟨5, rfl, rfl⟩)
    have w1 : WhenAt K A10 l1 [rF, rT] := .lst (u10 _ _ (u9 _ _ (u8 _ _ (u7 _ _ (u6 _ _ (u5 _ _ e1)))))) (sT (sF .nil))
    have w2 : WhenAt K A10 l2 [rT, rF] := .lst (u10 _ _ (u9 _ _ (u8 _ _ (u7 _ _ (u6 _ _ e2))))) (sF (sT .nil))
    have w3 : WhenAt K A10 l3 [rF, rF, rT] := .lst (u10 _ _ (u9 _ _ (u8 _ _ e3))) (sT (sF (sF .nil)))
    have w4 : WhenAt K A10 l4 [rF, rT, rT] := .lst (u10 _ _ (u9 _ _ e4)) (sT (sT (sF .nil)))
    have prs : ∀ v ∈ [V.ref p1, .ref p2], ∃ pp la lb ra rb, v = .ref pp ∧ A10 pp = some (.tup [V.ref la, .ref lb]) ∧ WhenAt K A10 la ra ∧ WhenAt K A10 lb rb ∧ RowsOk ra ∧ RowsOk rb ∧ ra.length ≤ 8 ∧ rb.length ≤ 8 ∧ ra ≠ rb := fun v hv => by
      simp only [List.mem_cons, List.not_mem_nil, or_false] at hv
      rcases hv with rfl | rfl
      · exact ⟨p1, l1, l2, _, _, rfl, (u10 _ _ (u9 _ _ (u8 _ _ (u7 _ _ q1)))), w1, w2, ok _ (by simp), ok _ (by simp), by show 2 ≤ 8; decide, by show 2 ≤ 8; decide, fun z => ft (List.cons.inj z).1⟩
      · exact ⟨p2, l3, l4, _, _, rfl, (u10 _ _ q2), w3, w4, ok _ (by simp), ok _ (by simp), by show 3 ≤ 8; decide, by show 3 ≤ 8; decide, fun z => ft (List.cons.inj (List.cons.inj z).2).1⟩
    have nA : NameS "a" := NameS.of (by decide +kernel)
    have nB : NameS "b" := NameS.of (by decide +kernel)
    refine ⟨_, rfl, pl, rfl, ⟨_, SqL.of epl⟩, ?_⟩
    refine for_list (K := K) (a := pl) (xs := [V.ref p1, .ref p2]) (fun i z G => Same A10 G ∧ ∃ v3 v4, z = [some (.ref t1), some (.ref t2), some (.ref pl), v3, v4, none, none]) ⟨fun _ _ e => e, none, none, rfl⟩ (fun i z G _ ⟨s, _⟩ => SqL.of (s _ _ epl)) ?_ ?_
    · rintro i y z G hi ⟨sG, v3, v4, rfl⟩
      obtain ⟨pp, la, lb, ra, rb, rfl, hp, wa, wb, oa, ob, la8, lb8, ne⟩ := prs y (List.mem_of_getElem? hi)
      refine ⟨pp, _, rfl, SqT.of (sG _ _ hp), rfl, _, _, rfl, _, _, rfl, rfl, ?_⟩
      refine ⟨_, rfl, rfl, rfl, fun x1 d1 hx1 hd1 ne1 => ?_⟩
      change spRuleI K [.ref x1, .str "a", .str "b", .ref la, .non] _ _ E0
      refine rule_when TM hx1 hd1 nA nB (wa.same sG) oa la8 .non fun G1 m1 g1 so1 r1 => ⟨rfl, ?_⟩
      refine ⟨_, rfl, rfl, rfl, fun x2 d2 hx2 hd2 ne2 => ?_⟩
      change spRuleI K [.ref x2, .str "a", .str "b", .ref lb, .non] _ _ E0
      refine rule_when TM hx2 hd2 nA nB (wb.same (sG.trans g1)) ob lb8 .non fun G2 m2 g2 so2 r2 => ⟨rfl, own_eq Z.U (r1.same g2) r2 fun G3 g3 => ⟨_, rfl, ?_⟩⟩
      rw [ruleEq_w ne]
      exact iteF ⟨((sG.trans g1).trans g2).trans g3, _, _, rfl⟩
    rintro z B ⟨sB, v3, v4, rfl⟩
    have sHB : Same H B := fun b o e => sB _ _ (u10 _ _ (u9 _ _ (u8 _ _ (u7 _ _ (u6 _ _ (u5 _ _ (u4 _ _ (u3 _ _ (u2 _ _ (u1 _ _ e))))))))))
    refine ⟨7, rfl, by decide, by decide, fun D hD => ?_⟩
    refine lc_range (lo := 0) (n := 7) (fun i G => Same B G ∧ ∃ acc, G D = some (.lst acc) ∧ CondsAt K G acc (rowsK i)) ⟨same_new hD, [], upd_same, .nil⟩ ?_ ?_
    · rintro i G hi ⟨sG, acc, hacc, cs⟩
      refine ⟨rfl, ?_⟩
      refine ⟨_, rfl, (by show 3 ≤ sizeLine; decide), fun t nt => ?_⟩
      have ut := same_new (o := .tup [V.str "x", .str "from", .int (0 + (i : Int))]) nt
      have ht : upd G t (.tup [V.str "x", .str "from", .int (0 + (i : Int))]) t = some (.tup [V.str "x", .str "from", .int (0 + (i : Int))]) := upd_same
      have hD2 := ut _ _ hacc
      refine ⟨acc, hD2, by rw [cs.1, rowsK, List.length_map, List.length_range, sizeLine_eq]; omega, fun b o e => (upd_ne (ne_of_none e hD)).trans (ut _ _ (sG _ _ e)), _, upd_same, ?_⟩
      have er : rowsK (i + 1) = rowsK i ++ [(("x" : Str), ("from" : Str), ((0 + (i : Int) : Int) : Rat))] := by
        unfold rowsK
        rw [List.range_succ, List.map_append]
        rfl
      rw [er]
      exact ((cs.same ut).snoc (num := .int (0 + (i : Int))) ht (.inl ⟨_, rfl, rfl⟩)).keep (fun b ys e => (upd_ne (fun z => by rw [z, hD2] at e; cases e)).trans e) (fun b C dx fs e => (upd_ne (fun z => by rw [z, hD2] at e; cases e)).trans e)
    rintro B1 ⟨b1, acc, hacc, cs⟩
    refine ⟨(by show 3 ≤ sizeLine; decide), fun ty nty => ?_⟩
    have uy := same_new (o := .tup [V.str "y", .str "to", .int 3]) nty
    have hy : upd B1 ty (.tup [V.str "y", .str "to", .int 3]) ty = some (.tup [V.str "y", .str "to", .int 3]) := upd_same
    generalize upd B1 ty (.tup [V.str "y", .str "to", .int 3]) = B2 at uy hy ⊢
    refine ⟨(by show 1 ≤ sizeLine; decide), fun ly nly => ?_⟩
    have ul := same_new (o := .lst [V.ref ty]) nly
    have hl : upd B2 ly (.lst [V.ref ty]) ly = some (.lst [V.ref ty]) := upd_same
    generalize upd B2 ly (.lst [V.ref ty]) = B3 at ul hl ⊢
    have la : acc.length = 7 := by rw [cs.1]; rfl
    refine ⟨D, ly, acc, _, rfl, rfl, ul _ _ (uy _ _ hacc), hl, by rw [la, sizeLine_eq, List.length_singleton]; decide, fun le nle => ?_⟩
    have ue := same_new (o := .lst (acc ++ [V.ref ty])) nle
    have he : upd B3 le (.lst (acc ++ [V.ref ty])) le = some (.lst (acc ++ [V.ref ty])) := upd_same
    generalize upd B3 le (.lst (acc ++ [V.ref ty])) = B4 at ue he ⊢
    have b14 : Same B1 B4 := (uy.trans ul).trans ue
    have cs8 : CondsAt K B4 (acc ++ [V.ref ty]) rows8 := (cs.same b14).snoc (num := .int 3) (ue _ _ (ul _ _ hy)) (.inl ⟨3, rfl, rfl⟩)
    refine ⟨rfl, rfl, fun x dx hx hd ne => ?_⟩
    change spRuleI K [.ref x, .str "a", .str "b", .ref le, .non] _ _ E0
    refine rule_when TM hx hd nA nB (WhenAt.lst he cs8) ok8 (by show 8 ≤ 8; decide) .non fun C m8 c1' so8 r8 => ⟨rfl, ?_⟩
    obtain ⟨kv8, ⟨dx8, tw8, md8, es8, _⟩, _⟩ := id r8
    have sHC : Same H C := fun b o e => c1' _ _ (b14 _ _ (b1 _ _ (sHB _ _ e)))
    have len8 : rows8.length ≤ 1000 := by show 8 ≤ 1000; decide
    have sz8' : ∀ r ∈ rows8, Sz 100000 r.2.2 := fun r hr => (sz8 r hr).mono (by decide)
    have szI : ∀ i : Int, i.natAbs < 2 ^ 30 → Sz 100000 (i : Rat) := fun i h => Sz.mono (n := 30) ⟨by rw [Rat.num_intCast]; exact h, by rw [Rat.den_intCast]; decide⟩ (by decide)
    have nxy : ¬ (Str.ofString "x" = Str.ofString "y") := by decide +kernel
    have nyx : ¬ ((Sum.inr "x" : Key) = (Sum.inr "y" : Key)) := fun z => nxy (Sum.inr.inj z)
    have lev : ∀ {G : Hp} {d : Addr} {v : V} {q r : Rat}, G d = some (.dK [((Sum.inr "x" : Key), V.int (q.num)), (Sum.inr "y", v)]) → q = ((q.num : Int) : Rat) → Sz 100000 q → NumAt K G v r → Sz 100000 r → LevAt K G d (lvOf q r) := fun {G d v q r} h eq sq nr sr =>
      GvsAt.lev (nums := [(("x" : Str), q), ("y", r)]) h ⟨rfl, .inl ⟨q.num, rfl, eq⟩, rfl, nr, trivial⟩ (fun y hy => by
        simp only [List.mem_cons, List.not_mem_nil, or_false] at hy
        rcases hy with rfl | rfl
        · exact sq
        · exact sr)
    have mg2 : ∀ v w : V, mergeK [] [((Sum.inr "x" : Key), v), (Sum.inr "y", w)] = [((Sum.inr "x" : Key), v), (Sum.inr "y", w)] := fun v w => mergeK_new _ [] (by simp [nyx])
    have S0 : Same C C := fun _ _ e => e
    refine ⟨_, rfl, x, dx8, _, rfl, S0 _ _ es8, rfl, fun d1 nd1 => ?_⟩
    refine ⟨upd_same, [((Sum.inr "x" : Key), V.int 9), (Sum.inr "y", V.int 3)], rfl, by show 2 ≤ 15; decide, ?_⟩
    rw [mg2]
    have hd1 : upd (upd C d1 (.dK [])) d1 (.dK [((Sum.inr "x" : Key), V.int 9), (Sum.inr "y", V.int 3)]) d1 = some (.dK [((Sum.inr "x" : Key), V.int 9), (Sum.inr "y", V.int 3)]) := upd_same
    have v1 : Same C (upd (upd C d1 (.dK [])) d1 (.dK [((Sum.inr "x" : Key), V.int 9), (Sum.inr "y", V.int 3)])) := fun b o e => by
      rw [upd_upd]
      exact same_new nd1 b o e
    generalize upd (upd C d1 (.dK [])) d1 (.dK [((Sum.inr "x" : Key), V.int 9), (Sum.inr "y", V.int 3)]) = E1 at hd1 v1 ⊢
    refine ⟨x, d1, "a", "b", rows8, m8, _, rfl, (r8.same S0).same v1, lev (q := ((9 : Int) : Rat)) (r := ((3 : Int) : Rat)) hd1 rfl (szI 9 (by decide)) (.inl ⟨3, rfl, rfl⟩) (szI 3 (by decide)), len8, sz8', .inl ⟨has8, fun F1 w1 => ?_⟩⟩
    rw [all1]
    refine ⟨_, _, rfl, rfl, _, rfl, iteF ?_⟩
    have S1 : Same C F1 := (S0.trans v1).trans w1
    refine ⟨_, rfl, x, dx8, _, rfl, S1 _ _ es8, rfl, fun d2 nd2 => ?_⟩
    intro xr dxr hxr hdr ner
    refine ⟨xr, dxr, 13, 4, rfl, by decide, by decide +kernel, upd_same, fun Em er kpr => ⟨rfl, ?_⟩⟩
    have sm : Same (upd F1 d2 (.dK [])) Em := fun c o ec => kpr c o (ne_of_none ec hxr) (by rw [upd_ne (ne_of_none ec hxr), upd_ne (ne_of_none ec hdr)]; exact ec)
    have hmt : Em d2 = some (.dK []) := sm _ _ upd_same
    have hra : RatAt K Em xr (Rat.divInt 13 4) := ⟨dxr, er⟩
    have xd2 : xr ≠ d2 := fun z => by rw [z, hmt] at er; cases er
    refine ⟨hmt, [((Sum.inr "x" : Key), V.int 9), (Sum.inr "y", V.ref xr)], rfl, by show 2 ≤ 15; decide, ?_⟩
    rw [mg2]
    have hd2 : upd Em d2 (.dK [((Sum.inr "x" : Key), V.int 9), (Sum.inr "y", V.ref xr)]) d2 = some (.dK [((Sum.inr "x" : Key), V.int 9), (Sum.inr "y", V.ref xr)]) := upd_same
    have v2 : Same F1 (upd Em d2 (.dK [((Sum.inr "x" : Key), V.int 9), (Sum.inr "y", V.ref xr)])) := fun b o e => (upd_ne (ne_of_none e nd2)).trans (sm _ _ ((upd_ne (ne_of_none e nd2)).trans e))
    have hra2 : RatAt K (upd Em d2 (.dK [((Sum.inr "x" : Key), V.int 9), (Sum.inr "y", V.ref xr)])) xr (Rat.divInt 13 4) := ⟨dxr, (upd_ne xd2).trans er⟩
    generalize upd Em d2 (.dK [((Sum.inr "x" : Key), V.int 9), (Sum.inr "y", V.ref xr)]) = E2 at hd2 v2 hra2 ⊢
    refine ⟨x, d2, "a", "b", rows8, m8, _, rfl, (r8.same S1).same v2, lev (q := ((9 : Int) : Rat)) (r := (Rat.divInt 13 4)) hd2 rfl (szI 9 (by decide)) (.inr ⟨xr, rfl, hra2⟩) (Sz.mono (n := 30) ⟨by decide +kernel, by decide +kernel⟩ (by decide)), len8, sz8', .inl ⟨has8, fun F2 w2 => ?_⟩⟩
    rw [all2]
    refine ⟨_, _, rfl, rfl, _, rfl, iteF ?_⟩
    have S2 : Same C F2 := (S1.trans v2).trans w2
    refine ⟨_, rfl, x, dx8, _, rfl, S2 _ _ es8, rfl, fun d3 nd3 => ?_⟩
    refine ⟨upd_same, [((Sum.inr "x" : Key), V.int 5), (Sum.inr "y", V.int 3)], rfl, by show 2 ≤ 15; decide, ?_⟩
    rw [mg2]
    have hd3 : upd (upd F2 d3 (.dK [])) d3 (.dK [((Sum.inr "x" : Key), V.int 5), (Sum.inr "y", V.int 3)]) d3 = some (.dK [((Sum.inr "x" : Key), V.int 5), (Sum.inr "y", V.int 3)]) := upd_same
    have v3 : Same F2 (upd (upd F2 d3 (.dK [])) d3 (.dK [((Sum.inr "x" : Key), V.int 5), (Sum.inr "y", V.int 3)])) := fun b o e => by
      rw [upd_upd]
      exact same_new nd3 b o e
    generalize upd (upd F2 d3 (.dK [])) d3 (.dK [((Sum.inr "x" : Key), V.int 5), (Sum.inr "y", V.int 3)]) = E3 at hd3 v3 ⊢
    refine ⟨x, d3, "a", "b", rows8, m8, _, rfl, (r8.same S2).same v3, lev (q := ((5 : Int) : Rat)) (r := ((3 : Int) : Rat)) hd3 rfl (szI 5 (by decide)) (.inl ⟨3, rfl, rfl⟩) (szI 3 (by decide)), len8, sz8', .inl ⟨has8, fun F3 w3 => ?_⟩⟩
    rw [all3]
    refine ⟨_, _, rfl, rfl, _, rfl, iteF ?_⟩
    have S3 : Same C F3 := (S2.trans v3).trans w3
    refine ⟨_, rfl, fun d4 nd4 => ?_⟩
    refine ⟨upd_same, [((Sum.inr "x" : Key), V.int 9)], rfl, by show 1 ≤ 15; decide, ?_⟩
    rw [show mergeK [] [((Sum.inr "x" : Key), V.int 9)] = [((Sum.inr "x" : Key), V.int 9)] from rfl, upd_upd]
    have hd4 : upd F3 d4 (.dK [((Sum.inr "x" : Key), V.int 9)]) d4 = some (.dK [((Sum.inr "x" : Key), V.int 9)]) := upd_same
    have v4 := same_new (o := .dK [((Sum.inr "x" : Key), V.int 9)]) nd4
    generalize upd F3 d4 (.dK [((Sum.inr "x" : Key), V.int 9)]) = E4 at hd4 v4 ⊢
    have lev4 : LevAt K E4 d4 (fun u => [(("x" : Str), ((9 : Int) : Rat))].lookup u) := GvsAt.lev (nums := [(("x" : Str), ((9 : Int) : Rat))]) hd4 ⟨rfl, .inl ⟨9, rfl, rfl⟩, trivial⟩ (fun y hy => by
      rw [List.mem_singleton] at hy
      rw [hy]
      exact szI 9 (by decide))
    refine ⟨x, d4, "a", "b", rows8, m8, _, rfl, (r8.same S3).same v4, lev4, len8, sz8', .inr ⟨7, _, nth7, by simp [List.lookup, ny_x], fun i u hi hu => ?_, fun l F s n e => ?_⟩⟩
    · have z := first7 ⟨i, hi⟩
      rw [hu] at z
      have z2 : u.1 = "x" := Option.some.inj z
      rw [z2]
      simp [List.lookup]
    · refine ⟨(by show 4 ≤ sizeLine; decide), fun l5 n5 => ?_⟩
      have u5 := same_new (o := .lst [V.str "level", .str "y", .bl true, .bl true]) n5
      refine ⟨true, lstSelf (u5 _ _ e) upd_same (fun v hv => ?_), fun F5 s5 => k F5 fun b o eb => s5 _ _ (u5 _ _ (s _ _ (v4 _ _ (S3 _ _ (sHC _ _ eb)))))⟩
      simp only [List.mem_cons, List.not_mem_nil, or_false] at hv
      rcases hv with rfl | rfl | rfl | rfl <;> rfl
end
end K18
set_option maxHeartbeats 0
namespace K18
open PySem PySem.Spec PyProof.Rows L2 GL
structure HY (K T : PySem.W.Frag) (h : Heap) (mg : Str → Option Value) : Prop where
  X : K.In h
  XT : T.In h
  G : h.Ns mainGlobals mg
  D : He.SaysD fas fns K
  Dx : SaysX fxs K
  S : SysK K
  B : (chks K).all id = true
  tab : tabB2 K T (lamF K) = true
theorem HY.chk {K T : PySem.W.Frag} {h : Heap} {mg : Str → Option Value} (Y : HY K T h mg) (i : Nat) {b : Bool} (e : (chks K)[i]? = some b) : b = true := List.all_eq_true.mp Y.B b (List.mem_of_getElem? e)
theorem toR {P : Program} {w : World} {K : PySem.W.Frag} {mg : Str → Option Value} {base : Heap} {CX : CXT} {k : Nat} {f : Addr} {fd : FuncData} {ps : List Str} {sp : Sp} (F : FnOk P w K mg base CX k f fd ps sp) (hb : Binds K fd ps []) : FnR P w K mg base CX k f sp := (F.raw hb .nil).imp fun vs H Q E h => by rw [List.append_nil]; exact h
theorem mro_ok {K : PySem.W.Frag} {C : Addr} (h : mroB K C = true) : ∃ cd rest, PySem.W.clsIn K C = some cd ∧ cd.mro = .ref C :: rest := by
  unfold mroB at h
  split at h
  · rename_i cd e
    split at h
    · rename_i a rest em
      have ea : a = C := eq_of_beq h
      rw [ea] at em
      exact ⟨cd, rest, e, em⟩
    · cases h
  · cases h
section
variable {P : Program} {w : World} {K T : PySem.W.Frag} {h : Heap} {mg : Str → Option Value} {base : Heap}
theorem rf (Y : HY K T h mg) : RF K mg := { cl := (He.cls_ok (Y.D.fact 72 (f := .cls "Ratio") rfl)), nT := (He.noat_ok (Y.D.fact 73 (f := .noat "Ratio" "_top") rfl)), nB := (He.noat_ok (Y.D.fact 74 (f := .noat "Ratio" "_bottom") rfl)), kc := (He.eqO_ok (Y.chk 2 (b := He.eqO (PySem.W.findIn K (.ref (He.ga K "Ratio")) "__class__") (some (some (.builtin "object.__class__")))) rfl)), sp := (of_decide_eq_true (Y.chk 0 (b := decide (PySem.W.specialIn K (.builtin "object.__class__") "__get__" = some (some (.builtin "getset_descriptor.__get__")))) rfl)), tk := (of_decide_eq_true (Y.chk 1 (b := decide (PySem.W.takesIn K (.builtin "object.__class__") = some true)) rfl)), ob := (of_decide_eq_true (Y.chk 3 (b := decide (PySem.W.mroIn K (He.ga K "Ratio") (.type "object") = some true)) rfl)), gR := (He.glo_ok Y.X Y.G (Y.D.fact 12 (f := .glo "Ratio") rfl)), ki := (of_decide_eq_true (Y.chk 11 (b := decide (PySem.W.kitOne K (.ref (He.ga K "Ratio")) (.type "int") = some false)) rfl)), isi := (He.free_ok Y.X Y.G (Y.D.fact 53 (f := .free "isinstance") rfl)), int := (He.free_ok Y.X Y.G (Y.D.fact 54 (f := .free "int") rfl)), bool := (He.free_ok Y.X Y.G (Y.D.fact 55 (f := .free "bool") rfl)) }
theorem mf (Y : HY K T h mg) : MF K mg := { cl := (He.cls_ok (Y.D.fact 76 (f := .cls "Move") rfl)), nD := (He.noat_ok (Y.D.fact 77 (f := .noat "Move" "_divisor") rfl)), nP := (He.noat_ok (Y.D.fact 78 (f := .noat "Move" "_plus") rfl)), nL := (He.noat_ok (Y.D.fact 79 (f := .noat "Move" "_low") rfl)), nH := (He.noat_ok (Y.D.fact 80 (f := .noat "Move" "_high") rfl)), kc := (He.eqO_ok (Y.chk 5 (b := He.eqO (PySem.W.findIn K (.ref (He.ga K "Move")) "__class__") (some (some (.builtin "object.__class__")))) rfl)), sp := (of_decide_eq_true (Y.chk 0 (b := decide (PySem.W.specialIn K (.builtin "object.__class__") "__get__" = some (some (.builtin "getset_descriptor.__get__")))) rfl)), tk := (of_decide_eq_true (Y.chk 1 (b := decide (PySem.W.takesIn K (.builtin "object.__class__") = some true)) rfl)), ob := (of_decide_eq_true (Y.chk 6 (b := decide (PySem.W.mroIn K (He.ga K "Move") (.type "object") = some true)) rfl)), gM := (He.glo_ok Y.X Y.G (Y.D.fact 16 (f := .glo "Move") rfl)) }
theorem uf (Y : HY K T h mg) : UF K mg := { cl := (He.cls_ok (Y.D.fact 82 (f := .cls "Rule") rfl)), nG := (He.noat_ok (Y.D.fact 83 (f := .noat "Rule" "_goal") rfl)), nA := (He.noat_ok (Y.D.fact 84 (f := .noat "Rule" "_answer") rfl)), nW := (He.noat_ok (Y.D.fact 85 (f := .noat "Rule" "_when") rfl)), nM := (He.noat_ok (Y.D.fact 86 (f := .noat "Rule" "_moves") rfl)), gU := (He.glo_ok Y.X Y.G (Y.D.fact 23 (f := .glo "Rule") rfl)) }
theorem free_ (Y : HY K T h mg) : Free mg := { len := (He.free_ok Y.X Y.G (Y.D.fact 56 (f := .free "len") rfl)), abs := (He.free_ok Y.X Y.G (Y.D.fact 57 (f := .free "abs") rfl)), max := (He.free_ok Y.X Y.G (Y.D.fact 58 (f := .free "max") rfl)), min := (He.free_ok Y.X Y.G (Y.D.fact 59 (f := .free "min") rfl)), int := (He.free_ok Y.X Y.G (Y.D.fact 54 (f := .free "int") rfl)), divmod := (He.free_ok Y.X Y.G (Y.D.fact 60 (f := .free "divmod") rfl)), range := (He.free_ok Y.X Y.G (Y.D.fact 64 (f := .free "range") rfl)), all := (He.free_ok Y.X Y.G (Y.D.fact 63 (f := .free "all") rfl)), str := (He.free_ok Y.X Y.G (Y.D.fact 61 (f := .free "str") rfl)), list := (He.free_ok Y.X Y.G (Y.D.fact 62 (f := .free "list") rfl)), repr := (He.free_ok Y.X Y.G (Y.D.fact 66 (f := .free "repr") rfl)), any := (He.free_ok Y.X Y.G (Y.D.fact 67 (f := .free "any") rfl)) }
theorem nf (Y : HY K T h mg) : NF K mg := { isi := (He.free_ok Y.X Y.G (Y.D.fact 53 (f := .free "isinstance") rfl)), str := (He.free_ok Y.X Y.G (Y.D.fact 61 (f := .free "str") rfl)), list := (He.free_ok Y.X Y.G (Y.D.fact 62 (f := .free "list") rfl)), tuple := (He.free_ok Y.X Y.G (Y.D.fact 65 (f := .free "tuple") rfl)), dict := (He.free_ok Y.X Y.G (Y.D.fact 68 (f := .free "dict") rfl)), len := (He.free_ok Y.X Y.G (Y.D.fact 56 (f := .free "len") rfl)), all := (He.free_ok Y.X Y.G (Y.D.fact 63 (f := .free "all") rfl)), let_ := (by obtain ⟨t, e⟩ := He.str_ok Y.X Y.G (Y.D.fact 52 (f := .str "LETTERS" "abcdefghijklmnopqrstuvwxyz") rfl); exact ⟨_, e, t, rfl⟩), lng := (by obtain ⟨t, e⟩ := He.int_ok Y.X Y.G (Y.D.fact 50 (f := .int "LONGEST_WORD" 8) rfl); exact ⟨_, e, t, rfl⟩) }
theorem own_add (Y : HY K T h mg) : OwnBin K (aR K) .Add (He.ma K (aR K) "__add__") := ⟨by exact (He.meth_ok (Y.D.fact 90 (f := .meth "Ratio" "__add__") rfl)), by exact (He.eqO_ok (Y.chk 13 (b := He.eqO (PySem.W.findIn K (.ref (He.ga K "Ratio")) "__radd__") (some none)) rfl)), mro_ok (Y.chk 14 (b := mroB K (He.ga K "Ratio")) rfl), (of_decide_eq_true (Y.chk 15 (b := decide (PySem.W.subIn K (.type "int") (.ref (He.ga K "Ratio")) = some false)) rfl))⟩
theorem creadR (Y : HY K T h mg) : ClX.CRead K (aR K) (.type "type") := ⟨(Y.chk 23 (b := PySem.W.readsIn K (He.ga K "Ratio") (.type "type")) rfl), (He.eqO_ok (Y.chk 24 (b := He.eqO (PySem.W.specialIn K (.ref (He.ga K "Ratio")) "__getattribute__") (some (some (.builtin "type.__getattribute__")))) rfl))⟩
theorem d_is_integer (Y : HY K T h mg) : ∃ fd, FunD K "is_integer" "is_integer" (defArgs (tp 17)) (defBody (tp 17)) (defScope (tp 17)) [] [] (He.ga K "is_integer") fd ∧ Binds K fd ["value"] [] := by
  obtain ⟨fd, F⟩ : ∃ fd, FunD K "is_integer" "is_integer" (defArgs (tp 17)) (defBody (tp 17)) (defScope (tp 17)) [] [] (He.ga K "is_integer") fd := Y.D.def_ 4 rfl
  exact ⟨fd, F, F.bindsN fun _ _ _ _ _ _ us hl => match us, hl with | [_], _ => rfl⟩
theorem d_is_list (Y : HY K T h mg) : ∃ fd, FunD K "is_list" "is_list" (defArgs (tp 18)) (defBody (tp 18)) (defScope (tp 18)) [] [] (He.ga K "is_list") fd ∧ Binds K fd ["value"] [] := by
  obtain ⟨fd, F⟩ : ∃ fd, FunD K "is_list" "is_list" (defArgs (tp 18)) (defBody (tp 18)) (defScope (tp 18)) [] [] (He.ga K "is_list") fd := Y.D.def_ 5 rfl
  exact ⟨fd, F, F.bindsN fun _ _ _ _ _ _ us hl => match us, hl with | [_], _ => rfl⟩
theorem d_is_name (Y : HY K T h mg) : ∃ fd, FunD K "is_name" "is_name" (defArgs (tp 19)) (defBody (tp 19)) (defScope (tp 19)) [] [] (He.ga K "is_name") fd ∧ Binds K fd ["value"] [] := by
  obtain ⟨fd, F⟩ : ∃ fd, FunD K "is_name" "is_name" (defArgs (tp 19)) (defBody (tp 19)) (defScope (tp 19)) [] [] (He.ga K "is_name") fd := Y.D.def_ 6 rfl
  exact ⟨fd, F, F.bindsN fun _ _ _ _ _ _ us hl => match us, hl with | [_], _ => rfl⟩
theorem d__is_word (Y : HY K T h mg) : ∃ fd, FunD K "_is_word" "_is_word" (defArgs (tp 20)) (defBody (tp 20)) (defScope (tp 20)) [] [] (He.ga K "_is_word") fd ∧ Binds K fd ["text"] [] := by
  obtain ⟨fd, F⟩ : ∃ fd, FunD K "_is_word" "_is_word" (defArgs (tp 20)) (defBody (tp 20)) (defScope (tp 20)) [] [] (He.ga K "_is_word") fd := Y.D.def_ 7 rfl
  exact ⟨fd, F, F.bindsN fun _ _ _ _ _ _ us hl => match us, hl with | [_], _ => rfl⟩
theorem d_has_names (Y : HY K T h mg) : ∃ fd, FunD K "has_names" "has_names" (defArgs (tp 21)) (defBody (tp 21)) (defScope (tp 21)) [] [] (He.ga K "has_names") fd ∧ Binds K fd ["value"] [] := by
  obtain ⟨fd, F⟩ : ∃ fd, FunD K "has_names" "has_names" (defArgs (tp 21)) (defBody (tp 21)) (defScope (tp 21)) [] [] (He.ga K "has_names") fd := Y.D.def_ 8 rfl
  exact ⟨fd, F, F.bindsN fun _ _ _ _ _ _ us hl => match us, hl with | [_], _ => rfl⟩
theorem d_is_one_of (Y : HY K T h mg) : ∃ fd, FunD K "is_one_of" "is_one_of" (defArgs (tp 22)) (defBody (tp 22)) (defScope (tp 22)) [] [] (He.ga K "is_one_of") fd ∧ Binds K fd ["value", "names"] [] := by
  obtain ⟨fd, F⟩ : ∃ fd, FunD K "is_one_of" "is_one_of" (defArgs (tp 22)) (defBody (tp 22)) (defScope (tp 22)) [] [] (He.ga K "is_one_of") fd := Y.D.def_ 9 rfl
  exact ⟨fd, F, F.bindsN fun _ _ _ _ _ _ us hl => match us, hl with | [_, _], _ => rfl⟩
theorem d_is_number (Y : HY K T h mg) : ∃ fd, FunD K "is_number" "is_number" (defArgs (tp 24)) (defBody (tp 24)) (defScope (tp 24)) [] [] (He.ga K "is_number") fd ∧ Binds K fd ["value"] [] := by
  obtain ⟨fd, F⟩ : ∃ fd, FunD K "is_number" "is_number" (defArgs (tp 24)) (defBody (tp 24)) (defScope (tp 24)) [] [] (He.ga K "is_number") fd := Y.D.def_ 10 rfl
  exact ⟨fd, F, F.bindsN fun _ _ _ _ _ _ us hl => match us, hl with | [_], _ => rfl⟩
theorem d_is_cut (Y : HY K T h mg) : ∃ fd, FunD K "is_cut" "is_cut" (defArgs (tp 28)) (defBody (tp 28)) (defScope (tp 28)) [] [] (He.ga K "is_cut") fd ∧ Binds K fd ["value"] [] := by
  obtain ⟨fd, F⟩ : ∃ fd, FunD K "is_cut" "is_cut" (defArgs (tp 28)) (defBody (tp 28)) (defScope (tp 28)) [] [] (He.ga K "is_cut") fd := Y.D.def_ 17 rfl
  exact ⟨fd, F, F.bindsN fun _ _ _ _ _ _ us hl => match us, hl with | [_], _ => rfl⟩
theorem d_ratio_cut (Y : HY K T h mg) : ∃ fd, FunD K "ratio_cut" "ratio_cut" (defArgs (tp 29)) (defBody (tp 29)) (defScope (tp 29)) [] [] (He.ga K "ratio_cut") fd ∧ Binds K fd ["cut"] [] := by
  obtain ⟨fd, F⟩ : ∃ fd, FunD K "ratio_cut" "ratio_cut" (defArgs (tp 29)) (defBody (tp 29)) (defScope (tp 29)) [] [] (He.ga K "ratio_cut") fd := Y.D.def_ 18 rfl
  exact ⟨fd, F, F.bindsN fun _ _ _ _ _ _ us hl => match us, hl with | [_], _ => rfl⟩
theorem d_is_above (Y : HY K T h mg) : ∃ fd, FunD K "is_above" "is_above" (defArgs (tp 30)) (defBody (tp 30)) (defScope (tp 30)) [] [] (He.ga K "is_above") fd ∧ Binds K fd ["number", "cut"] [] := by
  obtain ⟨fd, F⟩ : ∃ fd, FunD K "is_above" "is_above" (defArgs (tp 30)) (defBody (tp 30)) (defScope (tp 30)) [] [] (He.ga K "is_above") fd := Y.D.def_ 19 rfl
  exact ⟨fd, F, F.bindsN fun _ _ _ _ _ _ us hl => match us, hl with | [_, _], _ => rfl⟩
theorem d__check_divisor (Y : HY K T h mg) : ∃ fd, FunD K "_check_divisor" "_check_divisor" (defArgs (tp 33)) (defBody (tp 33)) (defScope (tp 33)) [] [] (He.ga K "_check_divisor") fd ∧ Binds K fd ["value"] [] := by
  obtain ⟨fd, F⟩ : ∃ fd, FunD K "_check_divisor" "_check_divisor" (defArgs (tp 33)) (defBody (tp 33)) (defScope (tp 33)) [] [] (He.ga K "_check_divisor") fd := Y.D.def_ 22 rfl
  exact ⟨fd, F, F.bindsN fun _ _ _ _ _ _ us hl => match us, hl with | [_], _ => rfl⟩
theorem d__check_part (Y : HY K T h mg) : ∃ fd, FunD K "_check_part" "_check_part" (defArgs (tp 34)) (defBody (tp 34)) (defScope (tp 34)) [] [] (He.ga K "_check_part") fd ∧ Binds K fd ["name", "value"] [] := by
  obtain ⟨fd, F⟩ : ∃ fd, FunD K "_check_part" "_check_part" (defArgs (tp 34)) (defBody (tp 34)) (defScope (tp 34)) [] [] (He.ga K "_check_part") fd := Y.D.def_ 23 rfl
  exact ⟨fd, F, F.bindsN fun _ _ _ _ _ _ us hl => match us, hl with | [_, _], _ => rfl⟩
theorem d_condition_cut (Y : HY K T h mg) : ∃ fd, FunD K "condition_cut" "condition_cut" (defArgs (tp 39)) (defBody (tp 39)) (defScope (tp 39)) [] [] (He.ga K "condition_cut") fd ∧ Binds K fd ["condition"] [] := by
  obtain ⟨fd, F⟩ : ∃ fd, FunD K "condition_cut" "condition_cut" (defArgs (tp 39)) (defBody (tp 39)) (defScope (tp 39)) [] [] (He.ga K "condition_cut") fd := Y.D.def_ 24 rfl
  exact ⟨fd, F, F.bindsN fun _ _ _ _ _ _ us hl => match us, hl with | [_], _ => rfl⟩
theorem d_wants_above (Y : HY K T h mg) : ∃ fd, FunD K "wants_above" "wants_above" (defArgs (tp 40)) (defBody (tp 40)) (defScope (tp 40)) [] [] (He.ga K "wants_above") fd ∧ Binds K fd ["condition"] [] := by
  obtain ⟨fd, F⟩ : ∃ fd, FunD K "wants_above" "wants_above" (defArgs (tp 40)) (defBody (tp 40)) (defScope (tp 40)) [] [] (He.ga K "wants_above") fd := Y.D.def_ 25 rfl
  exact ⟨fd, F, F.bindsN fun _ _ _ _ _ _ us hl => match us, hl with | [_], _ => rfl⟩
theorem d__check_when (Y : HY K T h mg) : ∃ fd, FunD K "_check_when" "_check_when" (defArgs (tp 42)) (defBody (tp 42)) (defScope (tp 42)) [] [] (He.ga K "_check_when") fd ∧ Binds K fd ["when"] [] := by
  obtain ⟨fd, F⟩ : ∃ fd, FunD K "_check_when" "_check_when" (defArgs (tp 42)) (defBody (tp 42)) (defScope (tp 42)) [] [] (He.ga K "_check_when") fd := Y.D.def_ 32 rfl
  exact ⟨fd, F, F.bindsN fun _ _ _ _ _ _ us hl => match us, hl with | [_], _ => rfl⟩
theorem d__is_condition (Y : HY K T h mg) : ∃ fd, FunD K "_is_condition" "_is_condition" (defArgs (tp 43)) (defBody (tp 43)) (defScope (tp 43)) [] [] (He.ga K "_is_condition") fd ∧ Binds K fd ["value"] [] := by
  obtain ⟨fd, F⟩ : ∃ fd, FunD K "_is_condition" "_is_condition" (defArgs (tp 43)) (defBody (tp 43)) (defScope (tp 43)) [] [] (He.ga K "_is_condition") fd := Y.D.def_ 33 rfl
  exact ⟨fd, F, F.bindsN fun _ _ _ _ _ _ us hl => match us, hl with | [_], _ => rfl⟩
theorem d__check_moves (Y : HY K T h mg) : ∃ fd, FunD K "_check_moves" "_check_moves" (defArgs (tp 44)) (defBody (tp 44)) (defScope (tp 44)) [] [] (He.ga K "_check_moves") fd ∧ Binds K fd ["moves"] [] := by
  obtain ⟨fd, F⟩ : ∃ fd, FunD K "_check_moves" "_check_moves" (defArgs (tp 44)) (defBody (tp 44)) (defScope (tp 44)) [] [] (He.ga K "_check_moves") fd := Y.D.def_ 34 rfl
  exact ⟨fd, F, F.bindsN fun _ _ _ _ _ _ us hl => match us, hl with | [_], _ => rfl⟩
theorem d__law_pot (Y : HY K T h mg) : ∃ fd, FunD K "_law_pot" "_law_pot" (defArgs (tp 46)) (defBody (tp 46)) (defScope (tp 46)) [] [] (He.ga K "_law_pot") fd ∧ Binds K fd ["_law_script", "_law_index"] [] := by
  obtain ⟨fd, F⟩ : ∃ fd, FunD K "_law_pot" "_law_pot" (defArgs (tp 46)) (defBody (tp 46)) (defScope (tp 46)) [] [] (He.ga K "_law_pot") fd := Y.D.def_ 35 rfl
  exact ⟨fd, F, F.bindsN fun _ _ _ _ _ _ us hl => match us, hl with | [_, _], _ => rfl⟩
theorem d__law_draw (Y : HY K T h mg) : ∃ fd, FunD K "_law_draw" "_law_draw" (defArgs (tp 47)) (defBody (tp 47)) (defScope (tp 47)) [] [] (He.ga K "_law_draw") fd ∧ Binds K fd ["_law_pot_here", "_law_many"] [] := by
  obtain ⟨fd, F⟩ : ∃ fd, FunD K "_law_draw" "_law_draw" (defArgs (tp 47)) (defBody (tp 47)) (defScope (tp 47)) [] [] (He.ga K "_law_draw") fd := Y.D.def_ 36 rfl
  exact ⟨fd, F, F.bindsN fun _ _ _ _ _ _ us hl => match us, hl with | [_, _], _ => rfl⟩
theorem d__law_pick (Y : HY K T h mg) : ∃ fd, FunD K "_law_pick" "_law_pick" (defArgs (tp 48)) (defBody (tp 48)) (defScope (tp 48)) [] [] (He.ga K "_law_pick") fd ∧ Binds K fd ["_law_pot_here", "_law_some"] [] := by
  obtain ⟨fd, F⟩ : ∃ fd, FunD K "_law_pick" "_law_pick" (defArgs (tp 48)) (defBody (tp 48)) (defScope (tp 48)) [] [] (He.ga K "_law_pick") fd := Y.D.def_ 37 rfl
  exact ⟨fd, F, F.bindsN fun _ _ _ _ _ _ us hl => match us, hl with | [_, _], _ => rfl⟩
theorem d__law_lowest (Y : HY K T h mg) : ∃ fd, FunD K "_law_lowest" "_law_lowest" (defArgs (tp 49)) (defBody (tp 49)) (defScope (tp 49)) [] [] (He.ga K "_law_lowest") fd ∧ Binds K fd ["_law_top", "_law_bottom"] [] := by
  obtain ⟨fd, F⟩ : ∃ fd, FunD K "_law_lowest" "_law_lowest" (defArgs (tp 49)) (defBody (tp 49)) (defScope (tp 49)) [] [] (He.ga K "_law_lowest") fd := Y.D.def_ 38 rfl
  exact ⟨fd, F, F.bindsN fun _ _ _ _ _ _ us hl => match us, hl with | [_, _], _ => rfl⟩
theorem d__law_less (Y : HY K T h mg) : ∃ fd, FunD K "_law_less" "_law_less" (defArgs (tp 50)) (defBody (tp 50)) (defScope (tp 50)) [] [] (He.ga K "_law_less") fd ∧ Binds K fd ["_law_one", "_law_beside"] [] := by
  obtain ⟨fd, F⟩ : ∃ fd, FunD K "_law_less" "_law_less" (defArgs (tp 50)) (defBody (tp 50)) (defScope (tp 50)) [] [] (He.ga K "_law_less") fd := Y.D.def_ 39 rfl
  exact ⟨fd, F, F.bindsN fun _ _ _ _ _ _ us hl => match us, hl with | [_, _], _ => rfl⟩
theorem d__law_between (Y : HY K T h mg) : ∃ fd, FunD K "_law_between" "_law_between" (defArgs (tp 51)) (defBody (tp 51)) (defScope (tp 51)) [] [] (He.ga K "_law_between") fd ∧ Binds K fd ["_law_low", "_law_high", "_law_share"] [] := by
  obtain ⟨fd, F⟩ : ∃ fd, FunD K "_law_between" "_law_between" (defArgs (tp 51)) (defBody (tp 51)) (defScope (tp 51)) [] [] (He.ga K "_law_between") fd := Y.D.def_ 40 rfl
  exact ⟨fd, F, F.bindsN fun _ _ _ _ _ _ us hl => match us, hl with | [_, _, _], _ => rfl⟩
theorem d__law_given (Y : HY K T h mg) : ∃ fd, FunD K "_law_given" "_law_given" (defArgs (tp 52)) (defBody (tp 52)) (defScope (tp 52)) [] [] (He.ga K "_law_given") fd ∧ Binds K fd ["_law_pot_here", "_law_pair"] [] := by
  obtain ⟨fd, F⟩ : ∃ fd, FunD K "_law_given" "_law_given" (defArgs (tp 52)) (defBody (tp 52)) (defScope (tp 52)) [] [] (He.ga K "_law_given") fd := Y.D.def_ 41 rfl
  exact ⟨fd, F, F.bindsN fun _ _ _ _ _ _ us hl => match us, hl with | [_, _], _ => rfl⟩
theorem d__law_spans (Y : HY K T h mg) : ∃ fd, FunD K "_law_spans" "_law_spans" (defArgs (tp 53)) (defBody (tp 53)) (defScope (tp 53)) [] [] (He.ga K "_law_spans") fd ∧ Binds K fd ["_law_pot_here"] [] := by
  obtain ⟨fd, F⟩ : ∃ fd, FunD K "_law_spans" "_law_spans" (defArgs (tp 53)) (defBody (tp 53)) (defScope (tp 53)) [] [] (He.ga K "_law_spans") fd := Y.D.def_ 42 rfl
  exact ⟨fd, F, F.bindsN fun _ _ _ _ _ _ us hl => match us, hl with | [_], _ => rfl⟩
theorem d__law_shift (Y : HY K T h mg) : ∃ fd, FunD K "_law_shift" "_law_shift" (defArgs (tp 54)) (defBody (tp 54)) (defScope (tp 54)) [] [] (He.ga K "_law_shift") fd ∧ Binds K fd ["_law_pot_here", "_law_span"] [] := by
  obtain ⟨fd, F⟩ : ∃ fd, FunD K "_law_shift" "_law_shift" (defArgs (tp 54)) (defBody (tp 54)) (defScope (tp 54)) [] [] (He.ga K "_law_shift") fd := Y.D.def_ 43 rfl
  exact ⟨fd, F, F.bindsN fun _ _ _ _ _ _ us hl => match us, hl with | [_, _], _ => rfl⟩
theorem d__law_shifts (Y : HY K T h mg) : ∃ fd, FunD K "_law_shifts" "_law_shifts" (defArgs (tp 55)) (defBody (tp 55)) (defScope (tp 55)) [] [] (He.ga K "_law_shifts") fd ∧ Binds K fd ["_law_pot_here", "_law_spans_here"] [] := by
  obtain ⟨fd, F⟩ : ∃ fd, FunD K "_law_shifts" "_law_shifts" (defArgs (tp 55)) (defBody (tp 55)) (defScope (tp 55)) [] [] (He.ga K "_law_shifts") fd := Y.D.def_ 44 rfl
  exact ⟨fd, F, F.bindsN fun _ _ _ _ _ _ us hl => match us, hl with | [_, _], _ => rfl⟩
theorem d__law_claims (Y : HY K T h mg) : ∃ fd, FunD K "_law_claims" "_law_claims" (defArgs (tp 56)) (defBody (tp 56)) (defScope (tp 56)) [] [] (He.ga K "_law_claims") fd ∧ Binds K fd ["_law_pot_here", "_law_spans_here"] [] := by
  obtain ⟨fd, F⟩ : ∃ fd, FunD K "_law_claims" "_law_claims" (defArgs (tp 56)) (defBody (tp 56)) (defScope (tp 56)) [] [] (He.ga K "_law_claims") fd := Y.D.def_ 45 rfl
  exact ⟨fd, F, F.bindsN fun _ _ _ _ _ _ us hl => match us, hl with | [_, _], _ => rfl⟩
theorem d__law_move (Y : HY K T h mg) : ∃ fd, FunD K "_law_move" "_law_move" (defArgs (tp 57)) (defBody (tp 57)) (defScope (tp 57)) [] [] (He.ga K "_law_move") fd ∧ Binds K fd ["_law_pot_here", "_law_shift_here"] [] := by
  obtain ⟨fd, F⟩ : ∃ fd, FunD K "_law_move" "_law_move" (defArgs (tp 57)) (defBody (tp 57)) (defScope (tp 57)) [] [] (He.ga K "_law_move") fd := Y.D.def_ 46 rfl
  exact ⟨fd, F, F.bindsN fun _ _ _ _ _ _ us hl => match us, hl with | [_, _], _ => rfl⟩
theorem d__law_holds (Y : HY K T h mg) : ∃ fd, FunD K "_law_holds" "_law_holds" (defArgs (tp 58)) (defBody (tp 58)) (defScope (tp 58)) [] [] (He.ga K "_law_holds") fd ∧ Binds K fd ["_law_claim", "_law_numbers"] [] := by
  obtain ⟨fd, F⟩ : ∃ fd, FunD K "_law_holds" "_law_holds" (defArgs (tp 58)) (defBody (tp 58)) (defScope (tp 58)) [] [] (He.ga K "_law_holds") fd := Y.D.def_ 47 rfl
  exact ⟨fd, F, F.bindsN fun _ _ _ _ _ _ us hl => match us, hl with | [_, _], _ => rfl⟩
theorem d__law_row (Y : HY K T h mg) : ∃ fd, FunD K "_law_row" "_law_row" (defArgs (tp 59)) (defBody (tp 59)) (defScope (tp 59)) [] [] (He.ga K "_law_row") fd ∧ Binds K fd ["_law_pot_here"] [] := by
  obtain ⟨fd, F⟩ : ∃ fd, FunD K "_law_row" "_law_row" (defArgs (tp 59)) (defBody (tp 59)) (defScope (tp 59)) [] [] (He.ga K "_law_row") fd := Y.D.def_ 48 rfl
  exact ⟨fd, F, F.bindsN fun _ _ _ _ _ _ us hl => match us, hl with | [_], _ => rfl⟩
theorem d__law_told (Y : HY K T h mg) : ∃ fd, FunD K "_law_told" "_law_told" (defArgs (tp 60)) (defBody (tp 60)) (defScope (tp 60)) [] [] (He.ga K "_law_told") fd ∧ Binds K fd ["_law_rule", "_law_numbers"] [] := by
  obtain ⟨fd, F⟩ : ∃ fd, FunD K "_law_told" "_law_told" (defArgs (tp 60)) (defBody (tp 60)) (defScope (tp 60)) [] [] (He.ga K "_law_told") fd := Y.D.def_ 49 rfl
  exact ⟨fd, F, F.bindsN fun _ _ _ _ _ _ us hl => match us, hl with | [_, _], _ => rfl⟩
theorem d__law_applied (Y : HY K T h mg) : ∃ fd, FunD K "_law_applied" "_law_applied" (defArgs (tp 61)) (defBody (tp 61)) (defScope (tp 61)) [] [] (He.ga K "_law_applied") fd ∧ Binds K fd ["_law_pot_here", "_law_rule", "_law_row_here"] [] := by
  obtain ⟨fd, F⟩ : ∃ fd, FunD K "_law_applied" "_law_applied" (defArgs (tp 61)) (defBody (tp 61)) (defScope (tp 61)) [] [] (He.ga K "_law_applied") fd := Y.D.def_ 50 rfl
  exact ⟨fd, F, F.bindsN fun _ _ _ _ _ _ us hl => match us, hl with | [_, _, _], _ => rfl⟩
theorem d__law_parts (Y : HY K T h mg) : ∃ fd, FunD K "_law_parts" "_law_parts" (defArgs (tp 62)) (defBody (tp 62)) (defScope (tp 62)) [] [] (He.ga K "_law_parts") fd ∧ Binds K fd ["_law_rule"] [] := by
  obtain ⟨fd, F⟩ : ∃ fd, FunD K "_law_parts" "_law_parts" (defArgs (tp 62)) (defBody (tp 62)) (defScope (tp 62)) [] [] (He.ga K "_law_parts") fd := Y.D.def_ 51 rfl
  exact ⟨fd, F, F.bindsN fun _ _ _ _ _ _ us hl => match us, hl with | [_], _ => rfl⟩
theorem d__law_kept (Y : HY K T h mg) : ∃ fd, FunD K "_law_kept" "_law_kept" (defArgs (tp 63)) (defBody (tp 63)) (defScope (tp 63)) [] [] (He.ga K "_law_kept") fd ∧ Binds K fd ["_law_rule", "_law_claims_given", "_law_shifts_given", "_law_due"] [] := by
  obtain ⟨fd, F⟩ : ∃ fd, FunD K "_law_kept" "_law_kept" (defArgs (tp 63)) (defBody (tp 63)) (defScope (tp 63)) [] [] (He.ga K "_law_kept") fd := Y.D.def_ 52 rfl
  exact ⟨fd, F, F.bindsN fun _ _ _ _ _ _ us hl => match us, hl with | [_, _, _, _], _ => rfl⟩
theorem d__law_changed_right (Y : HY K T h mg) : ∃ fd, FunD K "_law_changed_right" "_law_changed_right" (defArgs (tp 64)) (defBody (tp 64)) (defScope (tp 64)) [] [] (He.ga K "_law_changed_right") fd ∧ Binds K fd ["_law_rule", "_law_due"] [] := by
  obtain ⟨fd, F⟩ : ∃ fd, FunD K "_law_changed_right" "_law_changed_right" (defArgs (tp 64)) (defBody (tp 64)) (defScope (tp 64)) [] [] (He.ga K "_law_changed_right") fd := Y.D.def_ 53 rfl
  exact ⟨fd, F, F.bindsN fun _ _ _ _ _ _ us hl => match us, hl with | [_, _], _ => rfl⟩
theorem d__law_near_unlike (Y : HY K T h mg) : ∃ fd, FunD K "_law_near_unlike" "_law_near_unlike" (defArgs (tp 65)) (defBody (tp 65)) (defScope (tp 65)) [] [] (He.ga K "_law_near_unlike") fd ∧ Binds K fd ["_law_rule", "_law_due"] [] := by
  obtain ⟨fd, F⟩ : ∃ fd, FunD K "_law_near_unlike" "_law_near_unlike" (defArgs (tp 65)) (defBody (tp 65)) (defScope (tp 65)) [] [] (He.ga K "_law_near_unlike") fd := Y.D.def_ 54 rfl
  exact ⟨fd, F, F.bindsN fun _ _ _ _ _ _ us hl => match us, hl with | [_, _], _ => rfl⟩
theorem d__law_right (Y : HY K T h mg) : ∃ fd, FunD K "_law_right" "_law_right" (defArgs (tp 66)) (defBody (tp 66)) (defScope (tp 66)) [] [] (He.ga K "_law_right") fd ∧ Binds K fd ["_law_pot_here"] [] := by
  obtain ⟨fd, F⟩ : ∃ fd, FunD K "_law_right" "_law_right" (defArgs (tp 66)) (defBody (tp 66)) (defScope (tp 66)) [] [] (He.ga K "_law_right") fd := Y.D.def_ 55 rfl
  exact ⟨fd, F, F.bindsN fun _ _ _ _ _ _ us hl => match us, hl with | [_], _ => rfl⟩
theorem d__law_sequence_right (Y : HY K T h mg) : ∃ fd, FunD K "_law_sequence_right" "_law_sequence_right" (defArgs (tp 67)) (defBody (tp 67)) (defScope (tp 67)) [] [] (He.ga K "_law_sequence_right") fd ∧ Binds K fd [] [] := by
  obtain ⟨fd, F⟩ : ∃ fd, FunD K "_law_sequence_right" "_law_sequence_right" (defArgs (tp 67)) (defBody (tp 67)) (defScope (tp 67)) [] [] (He.ga K "_law_sequence_right") fd := Y.D.def_ 56 rfl
  exact ⟨fd, F, F.bindsN fun _ _ _ _ _ _ us hl => match us, hl with | [], _ => rfl⟩
theorem d_law (Y : HY K T h mg) : ∃ fd, FunD K "law" "law" (defArgs (tp 68)) (defBody (tp 68)) (defScope (tp 68)) [] [] (He.ga K "law") fd ∧ Binds K fd ["_law_script"] [] := by
  obtain ⟨fd, F⟩ : ∃ fd, FunD K "law" "law" (defArgs (tp 68)) (defBody (tp 68)) (defScope (tp 68)) [] [] (He.ga K "law") fd := Y.D.def_ 57 rfl
  exact ⟨fd, F, F.bindsN fun _ _ _ _ _ _ us hl => match us, hl with | [_], _ => rfl⟩
theorem d_InvalidName_init (Y : HY K T h mg) : ∃ fd, FunD K "__init__" "InvalidName.__init__" (defArgs (inClass (tp 5) 0)) (defBody (inClass (tp 5) 0)) (defScope (inClass (tp 5) 0)) [] [] (He.ma K (aIA K) "__init__") fd ∧ Binds K fd ["self", "value"] [] := by
  obtain ⟨fd, F⟩ : ∃ fd, FunD K "__init__" "InvalidName.__init__" (defArgs (inClass (tp 5) 0)) (defBody (inClass (tp 5) 0)) (defScope (inClass (tp 5) 0)) [] [] (He.ma K (aIA K) "__init__") fd := Y.D.def_ 0 rfl
  exact ⟨fd, F, F.bindsN fun _ _ _ _ _ _ us hl => match us, hl with | [_, _], _ => rfl⟩
theorem d_InvalidRule_init (Y : HY K T h mg) : ∃ fd, FunD K "__init__" "InvalidRule.__init__" (defArgs (inClass (tp 8) 0)) (defBody (inClass (tp 8) 0)) (defScope (inClass (tp 8) 0)) [] [] (He.ma K (aIL K) "__init__") fd ∧ Binds K fd ["self", "part", "position"] [] := by
  obtain ⟨fd, F⟩ : ∃ fd, FunD K "__init__" "InvalidRule.__init__" (defArgs (inClass (tp 8) 0)) (defBody (inClass (tp 8) 0)) (defScope (inClass (tp 8) 0)) [] [] (He.ma K (aIL K) "__init__") fd := Y.D.def_ 1 rfl
  exact ⟨fd, F, F.bindsN fun _ _ _ _ _ _ us hl => match us, hl with | [_, _, _], _ => rfl⟩
theorem d_TooMany_init (Y : HY K T h mg) : ∃ fd, FunD K "__init__" "TooMany.__init__" (defArgs (inClass (tp 9) 0)) (defBody (inClass (tp 9) 0)) (defScope (inClass (tp 9) 0)) [] [] (He.ma K (aTM K) "__init__") fd ∧ Binds K fd ["self", "kind", "limit"] [] := by
  obtain ⟨fd, F⟩ : ∃ fd, FunD K "__init__" "TooMany.__init__" (defArgs (inClass (tp 9) 0)) (defBody (inClass (tp 9) 0)) (defScope (inClass (tp 9) 0)) [] [] (He.ma K (aTM K) "__init__") fd := Y.D.def_ 2 rfl
  exact ⟨fd, F, F.bindsN fun _ _ _ _ _ _ us hl => match us, hl with | [_, _, _], _ => rfl⟩
theorem d_UnknownLevel_init (Y : HY K T h mg) : ∃ fd, FunD K "__init__" "UnknownLevel.__init__" (defArgs (inClass (tp 11) 0)) (defBody (inClass (tp 11) 0)) (defScope (inClass (tp 11) 0)) [] [] (He.ma K (aUL K) "__init__") fd ∧ Binds K fd ["self", "value"] [] := by
  obtain ⟨fd, F⟩ : ∃ fd, FunD K "__init__" "UnknownLevel.__init__" (defArgs (inClass (tp 11) 0)) (defBody (inClass (tp 11) 0)) (defScope (inClass (tp 11) 0)) [] [] (He.ma K (aUL K) "__init__") fd := Y.D.def_ 3 rfl
  exact ⟨fd, F, F.bindsN fun _ _ _ _ _ _ us hl => match us, hl with | [_, _], _ => rfl⟩
theorem d_Ratio_init (Y : HY K T h mg) : ∃ fd, FunD K "__init__" "Ratio.__init__" (defArgs (sRatio 0)) (defBody (sRatio 0)) (defScope (sRatio 0)) [.int 1] [] (He.ma K (aR K) "__init__") fd := Y.D.def_ 11 rfl
theorem d_Ratio_is_below (Y : HY K T h mg) : ∃ fd, FunD K "is_below" "Ratio.is_below" (defArgs (sRatio 7)) (defBody (sRatio 7)) (defScope (sRatio 7)) [] [] (He.ma K (aR K) "is_below") fd ∧ Binds K fd ["self", "other"] [] := by
  obtain ⟨fd, F⟩ : ∃ fd, FunD K "is_below" "Ratio.is_below" (defArgs (sRatio 7)) (defBody (sRatio 7)) (defScope (sRatio 7)) [] [] (He.ma K (aR K) "is_below") fd := Y.D.def_ 12 rfl
  exact ⟨fd, F, F.bindsN fun _ _ _ _ _ _ us hl => match us, hl with | [_, _], _ => rfl⟩
theorem d_Ratio_over (Y : HY K T h mg) : ∃ fd, FunD K "over" "Ratio.over" (defArgs (sRatio 8)) (defBody (sRatio 8)) (defScope (sRatio 8)) [] [] (He.ma K (aR K) "over") fd ∧ Binds K fd ["self", "other"] [] := by
  obtain ⟨fd, F⟩ : ∃ fd, FunD K "over" "Ratio.over" (defArgs (sRatio 8)) (defBody (sRatio 8)) (defScope (sRatio 8)) [] [] (He.ma K (aR K) "over") fd := Y.D.def_ 13 rfl
  exact ⟨fd, F, F.bindsN fun _ _ _ _ _ _ us hl => match us, hl with | [_, _], _ => rfl⟩
theorem d_Ratio_add (Y : HY K T h mg) : ∃ fd, FunD K "__add__" "Ratio.__add__" (defArgs (sRatio 9)) (defBody (sRatio 9)) (defScope (sRatio 9)) [] [] (He.ma K (aR K) "__add__") fd ∧ Binds K fd ["self", "other"] [] := by
  obtain ⟨fd, F⟩ : ∃ fd, FunD K "__add__" "Ratio.__add__" (defArgs (sRatio 9)) (defBody (sRatio 9)) (defScope (sRatio 9)) [] [] (He.ma K (aR K) "__add__") fd := Y.D.def_ 14 rfl
  exact ⟨fd, F, F.bindsN fun _ _ _ _ _ _ us hl => match us, hl with | [_, _], _ => rfl⟩
theorem d_Ratio_eq (Y : HY K T h mg) : ∃ fd, FunD K "__eq__" "Ratio.__eq__" (defArgs (sRatio 13)) (defBody (sRatio 13)) (defScope (sRatio 13)) [] [] (He.ma K (aR K) "__eq__") fd ∧ Binds K fd ["self", "other"] [] := by
  obtain ⟨fd, F⟩ : ∃ fd, FunD K "__eq__" "Ratio.__eq__" (defArgs (sRatio 13)) (defBody (sRatio 13)) (defScope (sRatio 13)) [] [] (He.ma K (aR K) "__eq__") fd := Y.D.def_ 15 rfl
  exact ⟨fd, F, F.bindsN fun _ _ _ _ _ _ us hl => match us, hl with | [_, _], _ => rfl⟩
theorem d_Ratio_repr (Y : HY K T h mg) : ∃ fd, FunD K "__repr__" "Ratio.__repr__" (defArgs (sRatio 15)) (defBody (sRatio 15)) (defScope (sRatio 15)) [] [] (He.ma K (aR K) "__repr__") fd ∧ Binds K fd ["self"] [] := by
  obtain ⟨fd, F⟩ : ∃ fd, FunD K "__repr__" "Ratio.__repr__" (defArgs (sRatio 15)) (defBody (sRatio 15)) (defScope (sRatio 15)) [] [] (He.ma K (aR K) "__repr__") fd := Y.D.def_ 16 rfl
  exact ⟨fd, F, F.bindsN fun _ _ _ _ _ _ us hl => match us, hl with | [_], _ => rfl⟩
theorem d_Move_init (Y : HY K T h mg) : ∃ fd, FunD K "__init__" "Move.__init__" (defArgs (sMove 0)) (defBody (sMove 0)) (defScope (sMove 0)) [] [] (He.ma K (aM K) "__init__") fd ∧ Binds K fd ["self", "divisor", "plus", "low", "high"] [] := by
  obtain ⟨fd, F⟩ : ∃ fd, FunD K "__init__" "Move.__init__" (defArgs (sMove 0)) (defBody (sMove 0)) (defScope (sMove 0)) [] [] (He.ma K (aM K) "__init__") fd := Y.D.def_ 20 rfl
  exact ⟨fd, F, F.bindsN fun _ _ _ _ _ _ us hl => match us, hl with | [_, _, _, _, _], _ => rfl⟩
theorem d_Move_eq (Y : HY K T h mg) : ∃ fd, FunD K "__eq__" "Move.__eq__" (defArgs (sMove 26)) (defBody (sMove 26)) (defScope (sMove 26)) [] [] (He.ma K (aM K) "__eq__") fd ∧ Binds K fd ["self", "other"] [] := by
  obtain ⟨fd, F⟩ : ∃ fd, FunD K "__eq__" "Move.__eq__" (defArgs (sMove 26)) (defBody (sMove 26)) (defScope (sMove 26)) [] [] (He.ma K (aM K) "__eq__") fd := Y.D.def_ 21 rfl
  exact ⟨fd, F, F.bindsN fun _ _ _ _ _ _ us hl => match us, hl with | [_, _], _ => rfl⟩
theorem d_Rule_init (Y : HY K T h mg) : ∃ fd, FunD K "__init__" "Rule.__init__" (defArgs (sRule 0)) (defBody (sRule 0)) (defScope (sRule 0)) [] [("when", V.ref (kwAt "Rule" "__init__" "when" K)), ("moves", V.non)] (He.ma K (aRu K) "__init__") fd := Y.D.def_ 26 rfl
theorem d_Rule_when (Y : HY K T h mg) : ∃ fd, FunD K "when" "Rule.when" (defArgs (sRule 3)) (defBody (sRule 3)) (defScope (sRule 3)) [] [] (He.ma K (aRu K) "when") fd ∧ Binds K fd ["self"] [] := by
  obtain ⟨fd, F⟩ : ∃ fd, FunD K "when" "Rule.when" (defArgs (sRule 3)) (defBody (sRule 3)) (defScope (sRule 3)) [] [] (He.ma K (aRu K) "when") fd := Y.D.def_ 27 rfl
  exact ⟨fd, F, F.bindsN fun _ _ _ _ _ _ us hl => match us, hl with | [_], _ => rfl⟩
theorem d_Rule_moves (Y : HY K T h mg) : ∃ fd, FunD K "moves" "Rule.moves" (defArgs (sRule 4)) (defBody (sRule 4)) (defScope (sRule 4)) [] [] (He.ma K (aRu K) "moves") fd ∧ Binds K fd ["self"] [] := by
  obtain ⟨fd, F⟩ : ∃ fd, FunD K "moves" "Rule.moves" (defArgs (sRule 4)) (defBody (sRule 4)) (defScope (sRule 4)) [] [] (He.ma K (aRu K) "moves") fd := Y.D.def_ 28 rfl
  exact ⟨fd, F, F.bindsN fun _ _ _ _ _ _ us hl => match us, hl with | [_], _ => rfl⟩
theorem d_Rule_applies (Y : HY K T h mg) : ∃ fd, FunD K "applies" "Rule.applies" (defArgs (sRule 5)) (defBody (sRule 5)) (defScope (sRule 5)) [] [] (He.ma K (aRu K) "applies") fd ∧ Binds K fd ["self", "levels"] [] := by
  obtain ⟨fd, F⟩ : ∃ fd, FunD K "applies" "Rule.applies" (defArgs (sRule 5)) (defBody (sRule 5)) (defScope (sRule 5)) [] [] (He.ma K (aRu K) "applies") fd := Y.D.def_ 29 rfl
  exact ⟨fd, F, F.bindsN fun _ _ _ _ _ _ us hl => match us, hl with | [_, _], _ => rfl⟩
theorem d_Rule_changed (Y : HY K T h mg) : ∃ fd, FunD K "changed" "Rule.changed" (defArgs (sRule 6)) (defBody (sRule 6)) (defScope (sRule 6)) [] [] (He.ma K (aRu K) "changed") fd := Y.D.def_ 30 rfl
theorem d_Rule_eq (Y : HY K T h mg) : ∃ fd, FunD K "__eq__" "Rule.__eq__" (defArgs (sRule 7)) (defBody (sRule 7)) (defScope (sRule 7)) [] [] (He.ma K (aRu K) "__eq__") fd ∧ Binds K fd ["self", "other"] [] := by
  obtain ⟨fd, F⟩ : ∃ fd, FunD K "__eq__" "Rule.__eq__" (defArgs (sRule 7)) (defBody (sRule 7)) (defScope (sRule 7)) [] [] (He.ma K (aRu K) "__eq__") fd := Y.D.def_ 31 rfl
  exact ⟨fd, F, F.bindsN fun _ _ _ _ _ _ us hl => match us, hl with | [_, _], _ => rfl⟩
theorem d_Ratio_of (Y : HY K T h mg) : ∃ fd, FunD K "of" "Ratio.of" (defArgs (sRatio 1)) (defBody (sRatio 1)) (defScope (sRatio 1)) [] [] (wrapAt K (aR K) "of" "classmethod") fd ∧ Binds K fd ["cls", "number"] [] := by
  obtain ⟨fd, F⟩ : ∃ fd, FunD K "of" "Ratio.of" (defArgs (sRatio 1)) (defBody (sRatio 1)) (defScope (sRatio 1)) [] [] (wrapAt K (aR K) "of" "classmethod") fd := Y.Dx.def_ 0 rfl
  exact ⟨fd, F, F.bindsN fun _ _ _ _ _ _ us hl => match us, hl with | [_, _], _ => rfl⟩
theorem d_Move_divisor (Y : HY K T h mg) : ∃ fd, FunD K "divisor" "Move.divisor" (defArgs (sMove 5)) (defBody (sMove 5)) (defScope (sMove 5)) [] [] (wrapAt K (aM K) "divisor" "property") fd ∧ Binds K fd ["self"] [] := by
  obtain ⟨fd, F⟩ : ∃ fd, FunD K "divisor" "Move.divisor" (defArgs (sMove 5)) (defBody (sMove 5)) (defScope (sMove 5)) [] [] (wrapAt K (aM K) "divisor" "property") fd := Y.Dx.def_ 1 rfl
  exact ⟨fd, F, F.bindsN fun _ _ _ _ _ _ us hl => match us, hl with | [_], _ => rfl⟩
theorem d_Move_plus (Y : HY K T h mg) : ∃ fd, FunD K "plus" "Move.plus" (defArgs (sMove 6)) (defBody (sMove 6)) (defScope (sMove 6)) [] [] (wrapAt K (aM K) "plus" "property") fd ∧ Binds K fd ["self"] [] := by
  obtain ⟨fd, F⟩ : ∃ fd, FunD K "plus" "Move.plus" (defArgs (sMove 6)) (defBody (sMove 6)) (defScope (sMove 6)) [] [] (wrapAt K (aM K) "plus" "property") fd := Y.Dx.def_ 2 rfl
  exact ⟨fd, F, F.bindsN fun _ _ _ _ _ _ us hl => match us, hl with | [_], _ => rfl⟩
theorem d_Move_low (Y : HY K T h mg) : ∃ fd, FunD K "low" "Move.low" (defArgs (sMove 7)) (defBody (sMove 7)) (defScope (sMove 7)) [] [] (wrapAt K (aM K) "low" "property") fd ∧ Binds K fd ["self"] [] := by
  obtain ⟨fd, F⟩ : ∃ fd, FunD K "low" "Move.low" (defArgs (sMove 7)) (defBody (sMove 7)) (defScope (sMove 7)) [] [] (wrapAt K (aM K) "low" "property") fd := Y.Dx.def_ 3 rfl
  exact ⟨fd, F, F.bindsN fun _ _ _ _ _ _ us hl => match us, hl with | [_], _ => rfl⟩
theorem d_Move_high (Y : HY K T h mg) : ∃ fd, FunD K "high" "Move.high" (defArgs (sMove 8)) (defBody (sMove 8)) (defScope (sMove 8)) [] [] (wrapAt K (aM K) "high" "property") fd ∧ Binds K fd ["self"] [] := by
  obtain ⟨fd, F⟩ : ∃ fd, FunD K "high" "Move.high" (defArgs (sMove 8)) (defBody (sMove 8)) (defScope (sMove 8)) [] [] (wrapAt K (aM K) "high" "property") fd := Y.Dx.def_ 4 rfl
  exact ⟨fd, F, F.bindsN fun _ _ _ _ _ _ us hl => match us, hl with | [_], _ => rfl⟩
theorem d_Rule_goal (Y : HY K T h mg) : ∃ fd, FunD K "goal" "Rule.goal" (defArgs (sRule 1)) (defBody (sRule 1)) (defScope (sRule 1)) [] [] (wrapAt K (aRu K) "goal" "property") fd ∧ Binds K fd ["self"] [] := by
  obtain ⟨fd, F⟩ : ∃ fd, FunD K "goal" "Rule.goal" (defArgs (sRule 1)) (defBody (sRule 1)) (defScope (sRule 1)) [] [] (wrapAt K (aRu K) "goal" "property") fd := Y.Dx.def_ 5 rfl
  exact ⟨fd, F, F.bindsN fun _ _ _ _ _ _ us hl => match us, hl with | [_], _ => rfl⟩
theorem d_Rule_answer (Y : HY K T h mg) : ∃ fd, FunD K "answer" "Rule.answer" (defArgs (sRule 2)) (defBody (sRule 2)) (defScope (sRule 2)) [] [] (wrapAt K (aRu K) "answer" "property") fd ∧ Binds K fd ["self"] [] := by
  obtain ⟨fd, F⟩ : ∃ fd, FunD K "answer" "Rule.answer" (defArgs (sRule 2)) (defBody (sRule 2)) (defScope (sRule 2)) [] [] (wrapAt K (aRu K) "answer" "property") fd := Y.Dx.def_ 6 rfl
  exact ⟨fd, F, F.bindsN fun _ _ _ _ _ _ us hl => match us, hl with | [_], _ => rfl⟩
end
end K18
set_option maxHeartbeats 0
namespace K18
open PySem PySem.Spec PyProof.Rows L2 GL
theorem facts {P : Program} {w : World} {K T : PySem.W.Frag} {h : Heap} {mg : Str → Option Value} {f : Addr} (Y : HY K T h mg) (hfa : mg ("law" : Str) = some (.ref f)) :
    ∃ fd : FuncData, (∀ (s : Shared) (v : Value), BindsTo s fd ⟨[v], []⟩ [("_law_script", v)]) ∧ ∀ base : Heap, K.In base → base.Ns mainGlobals mg → (∀ x ∈ (lamF K).map (fun f => (codeAt K f, tabAt K (codeAt K f))), LamX.TabB base mg x.1 x.2) →
      FnG P w K mg base CX0 11 f fd ["_law_script"] (spLaw K) := by
  have T_ := rf Y
  have TM := mf Y
  have UFx := uf Y
  have NFx := nf Y
  have FR := free_ Y

  obtain ⟨fd_is_integer, D_is_integer, b_is_integer⟩ := d_is_integer Y
  have F_is_integer := fun_of (st := tp 17) D_is_integer
  have g_is_integer : mg "is_integer" = some (.ref (He.ga K "is_integer")) := (He.glo_ok Y.X Y.G (Y.D.fact 5 (f := .glo "is_integer") rfl))
  obtain ⟨fd_is_list, D_is_list, b_is_list⟩ := d_is_list Y
  have F_is_list := fun_of (st := tp 18) D_is_list
  have g_is_list : mg "is_list" = some (.ref (He.ga K "is_list")) := (He.glo_ok Y.X Y.G (Y.D.fact 6 (f := .glo "is_list") rfl))
  obtain ⟨fd_is_name, D_is_name, b_is_name⟩ := d_is_name Y
  have F_is_name := fun_of (st := tp 19) D_is_name
  have g_is_name : mg "is_name" = some (.ref (He.ga K "is_name")) := (He.glo_ok Y.X Y.G (Y.D.fact 7 (f := .glo "is_name") rfl))
  obtain ⟨fd_is_word, D_is_word, b_is_word⟩ := d__is_word Y
  have F_is_word := fun_of (st := tp 20) D_is_word
  have g_is_word : mg "_is_word" = some (.ref (He.ga K "_is_word")) := (He.glo_ok Y.X Y.G (Y.D.fact 8 (f := .glo "_is_word") rfl))
  obtain ⟨fd_has_names, D_has_names, b_has_names⟩ := d_has_names Y
  have F_has_names := fun_of (st := tp 21) D_has_names
  have g_has_names : mg "has_names" = some (.ref (He.ga K "has_names")) := (He.glo_ok Y.X Y.G (Y.D.fact 9 (f := .glo "has_names") rfl))
  obtain ⟨fd_is_one_of, D_is_one_of, b_is_one_of⟩ := d_is_one_of Y
  have F_is_one_of := fun_of (st := tp 22) D_is_one_of
  have g_is_one_of : mg "is_one_of" = some (.ref (He.ga K "is_one_of")) := (He.glo_ok Y.X Y.G (Y.D.fact 10 (f := .glo "is_one_of") rfl))
  obtain ⟨fd_is_number, D_is_number, b_is_number⟩ := d_is_number Y
  have F_is_number := fun_of (st := tp 24) D_is_number
  have g_is_number : mg "is_number" = some (.ref (He.ga K "is_number")) := (He.glo_ok Y.X Y.G (Y.D.fact 11 (f := .glo "is_number") rfl))
  obtain ⟨fd_is_cut, D_is_cut, b_is_cut⟩ := d_is_cut Y
  have F_is_cut := fun_of (st := tp 28) D_is_cut
  have g_is_cut : mg "is_cut" = some (.ref (He.ga K "is_cut")) := (He.glo_ok Y.X Y.G (Y.D.fact 13 (f := .glo "is_cut") rfl))
  obtain ⟨fd_ratio_cut, D_ratio_cut, b_ratio_cut⟩ := d_ratio_cut Y
  have F_ratio_cut := fun_of (st := tp 29) D_ratio_cut
  have g_ratio_cut : mg "ratio_cut" = some (.ref (He.ga K "ratio_cut")) := (He.glo_ok Y.X Y.G (Y.D.fact 14 (f := .glo "ratio_cut") rfl))
  obtain ⟨fd_is_above, D_is_above, b_is_above⟩ := d_is_above Y
  have F_is_above := fun_of (st := tp 30) D_is_above
  have g_is_above : mg "is_above" = some (.ref (He.ga K "is_above")) := (He.glo_ok Y.X Y.G (Y.D.fact 15 (f := .glo "is_above") rfl))
  obtain ⟨fd_check_divisor, D_check_divisor, b_check_divisor⟩ := d__check_divisor Y
  have F_check_divisor := fun_of (st := tp 33) D_check_divisor
  have g_check_divisor : mg "_check_divisor" = some (.ref (He.ga K "_check_divisor")) := (He.glo_ok Y.X Y.G (Y.D.fact 17 (f := .glo "_check_divisor") rfl))
  obtain ⟨fd_check_part, D_check_part, b_check_part⟩ := d__check_part Y
  have F_check_part := fun_of (st := tp 34) D_check_part
  have g_check_part : mg "_check_part" = some (.ref (He.ga K "_check_part")) := (He.glo_ok Y.X Y.G (Y.D.fact 18 (f := .glo "_check_part") rfl))
  obtain ⟨fd_condition_cut, D_condition_cut, b_condition_cut⟩ := d_condition_cut Y
  have F_condition_cut := fun_of (st := tp 39) D_condition_cut
  have g_condition_cut : mg "condition_cut" = some (.ref (He.ga K "condition_cut")) := (He.glo_ok Y.X Y.G (Y.D.fact 21 (f := .glo "condition_cut") rfl))
  obtain ⟨fd_wants_above, D_wants_above, b_wants_above⟩ := d_wants_above Y
  have F_wants_above := fun_of (st := tp 40) D_wants_above
  have g_wants_above : mg "wants_above" = some (.ref (He.ga K "wants_above")) := (He.glo_ok Y.X Y.G (Y.D.fact 22 (f := .glo "wants_above") rfl))
  obtain ⟨fd_check_when, D_check_when, b_check_when⟩ := d__check_when Y
  have F_check_when := fun_of (st := tp 42) D_check_when
  have g_check_when : mg "_check_when" = some (.ref (He.ga K "_check_when")) := (He.glo_ok Y.X Y.G (Y.D.fact 24 (f := .glo "_check_when") rfl))
  obtain ⟨fd_is_condition, D_is_condition, b_is_condition⟩ := d__is_condition Y
  have F_is_condition := fun_of (st := tp 43) D_is_condition
  have g_is_condition : mg "_is_condition" = some (.ref (He.ga K "_is_condition")) := (He.glo_ok Y.X Y.G (Y.D.fact 25 (f := .glo "_is_condition") rfl))
  obtain ⟨fd_check_moves, D_check_moves, b_check_moves⟩ := d__check_moves Y
  have F_check_moves := fun_of (st := tp 44) D_check_moves
  have g_check_moves : mg "_check_moves" = some (.ref (He.ga K "_check_moves")) := (He.glo_ok Y.X Y.G (Y.D.fact 26 (f := .glo "_check_moves") rfl))
  obtain ⟨fd_lpot, D_lpot, b_lpot⟩ := d__law_pot Y
  have F_lpot := fun_of (st := tp 46) D_lpot
  have g_lpot : mg "_law_pot" = some (.ref (He.ga K "_law_pot")) := (He.glo_ok Y.X Y.G (Y.D.fact 27 (f := .glo "_law_pot") rfl))
  obtain ⟨fd_ldraw, D_ldraw, b_ldraw⟩ := d__law_draw Y
  have F_ldraw := fun_of (st := tp 47) D_ldraw
  have g_ldraw : mg "_law_draw" = some (.ref (He.ga K "_law_draw")) := (He.glo_ok Y.X Y.G (Y.D.fact 28 (f := .glo "_law_draw") rfl))
  obtain ⟨fd_lpick, D_lpick, b_lpick⟩ := d__law_pick Y
  have F_lpick := fun_of (st := tp 48) D_lpick
  have g_lpick : mg "_law_pick" = some (.ref (He.ga K "_law_pick")) := (He.glo_ok Y.X Y.G (Y.D.fact 29 (f := .glo "_law_pick") rfl))
  obtain ⟨fd_llowest, D_llowest, b_llowest⟩ := d__law_lowest Y
  have F_llowest := fun_of (st := tp 49) D_llowest
  have g_llowest : mg "_law_lowest" = some (.ref (He.ga K "_law_lowest")) := (He.glo_ok Y.X Y.G (Y.D.fact 30 (f := .glo "_law_lowest") rfl))
  obtain ⟨fd_lless, D_lless, b_lless⟩ := d__law_less Y
  have F_lless := fun_of (st := tp 50) D_lless
  have g_lless : mg "_law_less" = some (.ref (He.ga K "_law_less")) := (He.glo_ok Y.X Y.G (Y.D.fact 31 (f := .glo "_law_less") rfl))
  obtain ⟨fd_lbetween, D_lbetween, b_lbetween⟩ := d__law_between Y
  have F_lbetween := fun_of (st := tp 51) D_lbetween
  have g_lbetween : mg "_law_between" = some (.ref (He.ga K "_law_between")) := (He.glo_ok Y.X Y.G (Y.D.fact 32 (f := .glo "_law_between") rfl))
  obtain ⟨fd_lgiven, D_lgiven, b_lgiven⟩ := d__law_given Y
  have F_lgiven := fun_of (st := tp 52) D_lgiven
  have g_lgiven : mg "_law_given" = some (.ref (He.ga K "_law_given")) := (He.glo_ok Y.X Y.G (Y.D.fact 33 (f := .glo "_law_given") rfl))
  obtain ⟨fd_lspans, D_lspans, b_lspans⟩ := d__law_spans Y
  have F_lspans := fun_of (st := tp 53) D_lspans
  have g_lspans : mg "_law_spans" = some (.ref (He.ga K "_law_spans")) := (He.glo_ok Y.X Y.G (Y.D.fact 34 (f := .glo "_law_spans") rfl))
  obtain ⟨fd_lshift, D_lshift, b_lshift⟩ := d__law_shift Y
  have F_lshift := fun_of (st := tp 54) D_lshift
  have g_lshift : mg "_law_shift" = some (.ref (He.ga K "_law_shift")) := (He.glo_ok Y.X Y.G (Y.D.fact 35 (f := .glo "_law_shift") rfl))
  obtain ⟨fd_lshifts, D_lshifts, b_lshifts⟩ := d__law_shifts Y
  have F_lshifts := fun_of (st := tp 55) D_lshifts
  have g_lshifts : mg "_law_shifts" = some (.ref (He.ga K "_law_shifts")) := (He.glo_ok Y.X Y.G (Y.D.fact 36 (f := .glo "_law_shifts") rfl))
  obtain ⟨fd_lclaims, D_lclaims, b_lclaims⟩ := d__law_claims Y
  have F_lclaims := fun_of (st := tp 56) D_lclaims
  have g_lclaims : mg "_law_claims" = some (.ref (He.ga K "_law_claims")) := (He.glo_ok Y.X Y.G (Y.D.fact 37 (f := .glo "_law_claims") rfl))
  obtain ⟨fd_lmove, D_lmove, b_lmove⟩ := d__law_move Y
  have F_lmove := fun_of (st := tp 57) D_lmove
  have g_lmove : mg "_law_move" = some (.ref (He.ga K "_law_move")) := (He.glo_ok Y.X Y.G (Y.D.fact 38 (f := .glo "_law_move") rfl))
  obtain ⟨fd_lholds, D_lholds, b_lholds⟩ := d__law_holds Y
  have F_lholds := fun_of (st := tp 58) D_lholds
  have g_lholds : mg "_law_holds" = some (.ref (He.ga K "_law_holds")) := (He.glo_ok Y.X Y.G (Y.D.fact 39 (f := .glo "_law_holds") rfl))
  obtain ⟨fd_lrow, D_lrow, b_lrow⟩ := d__law_row Y
  have F_lrow := fun_of (st := tp 59) D_lrow
  have g_lrow : mg "_law_row" = some (.ref (He.ga K "_law_row")) := (He.glo_ok Y.X Y.G (Y.D.fact 40 (f := .glo "_law_row") rfl))
  obtain ⟨fd_ltold, D_ltold, b_ltold⟩ := d__law_told Y
  have F_ltold := fun_of (st := tp 60) D_ltold
  have g_ltold : mg "_law_told" = some (.ref (He.ga K "_law_told")) := (He.glo_ok Y.X Y.G (Y.D.fact 41 (f := .glo "_law_told") rfl))
  obtain ⟨fd_lapplied, D_lapplied, b_lapplied⟩ := d__law_applied Y
  have F_lapplied := fun_of (st := tp 61) D_lapplied
  have g_lapplied : mg "_law_applied" = some (.ref (He.ga K "_law_applied")) := (He.glo_ok Y.X Y.G (Y.D.fact 42 (f := .glo "_law_applied") rfl))
  obtain ⟨fd_lparts, D_lparts, b_lparts⟩ := d__law_parts Y
  have F_lparts := fun_of (st := tp 62) D_lparts
  have g_lparts : mg "_law_parts" = some (.ref (He.ga K "_law_parts")) := (He.glo_ok Y.X Y.G (Y.D.fact 43 (f := .glo "_law_parts") rfl))
  obtain ⟨fd_lkept, D_lkept, b_lkept⟩ := d__law_kept Y
  have F_lkept := fun_of (st := tp 63) D_lkept
  have g_lkept : mg "_law_kept" = some (.ref (He.ga K "_law_kept")) := (He.glo_ok Y.X Y.G (Y.D.fact 44 (f := .glo "_law_kept") rfl))
  obtain ⟨fd_lchanged_right, D_lchanged_right, b_lchanged_right⟩ := d__law_changed_right Y
  have F_lchanged_right := fun_of (st := tp 64) D_lchanged_right
  have g_lchanged_right : mg "_law_changed_right" = some (.ref (He.ga K "_law_changed_right")) := (He.glo_ok Y.X Y.G (Y.D.fact 45 (f := .glo "_law_changed_right") rfl))
  obtain ⟨fd_lnear_unlike, D_lnear_unlike, b_lnear_unlike⟩ := d__law_near_unlike Y
  have F_lnear_unlike := fun_of (st := tp 65) D_lnear_unlike
  have g_lnear_unlike : mg "_law_near_unlike" = some (.ref (He.ga K "_law_near_unlike")) := (He.glo_ok Y.X Y.G (Y.D.fact 46 (f := .glo "_law_near_unlike") rfl))
  obtain ⟨fd_lright, D_lright, b_lright⟩ := d__law_right Y
  have F_lright := fun_of (st := tp 66) D_lright
  have g_lright : mg "_law_right" = some (.ref (He.ga K "_law_right")) := (He.glo_ok Y.X Y.G (Y.D.fact 47 (f := .glo "_law_right") rfl))
  obtain ⟨fd_lsequence_right, D_lsequence_right, b_lsequence_right⟩ := d__law_sequence_right Y
  have F_lsequence_right := fun_of (st := tp 67) D_lsequence_right
  have g_lsequence_right : mg "_law_sequence_right" = some (.ref (He.ga K "_law_sequence_right")) := (He.glo_ok Y.X Y.G (Y.D.fact 48 (f := .glo "_law_sequence_right") rfl))
  obtain ⟨fd_law, D_law, b_law⟩ := d_law Y
  have F_law := fun_of (st := tp 68) D_law
  have g_law : mg "law" = some (.ref (He.ga K "law")) := (He.glo_ok Y.X Y.G (Y.D.fact 49 (f := .glo "law") rfl))
  obtain ⟨fd_InvalidName_init, F_InvalidName_init, b_InvalidName_init⟩ := d_InvalidName_init Y
  obtain ⟨fd_InvalidRule_init, F_InvalidRule_init, b_InvalidRule_init⟩ := d_InvalidRule_init Y
  obtain ⟨fd_TooMany_init, F_TooMany_init, b_TooMany_init⟩ := d_TooMany_init Y
  obtain ⟨fd_UnknownLevel_init, F_UnknownLevel_init, b_UnknownLevel_init⟩ := d_UnknownLevel_init Y
  obtain ⟨fd_Ratio_init, F_Ratio_init⟩ := d_Ratio_init Y
  obtain ⟨fd_Ratio_is_below, F_Ratio_is_below, b_Ratio_is_below⟩ := d_Ratio_is_below Y
  obtain ⟨fd_Ratio_over, F_Ratio_over, b_Ratio_over⟩ := d_Ratio_over Y
  obtain ⟨fd_Ratio_add, F_Ratio_add, b_Ratio_add⟩ := d_Ratio_add Y
  obtain ⟨fd_Ratio_eq, F_Ratio_eq, b_Ratio_eq⟩ := d_Ratio_eq Y
  obtain ⟨fd_Ratio_repr, F_Ratio_repr, b_Ratio_repr⟩ := d_Ratio_repr Y
  obtain ⟨fd_Move_init, F_Move_init, b_Move_init⟩ := d_Move_init Y
  obtain ⟨fd_Move_eq, F_Move_eq, b_Move_eq⟩ := d_Move_eq Y
  obtain ⟨fd_Rule_init, F_Rule_init⟩ := d_Rule_init Y
  obtain ⟨fd_Rule_when, F_Rule_when, b_Rule_when⟩ := d_Rule_when Y
  obtain ⟨fd_Rule_moves, F_Rule_moves, b_Rule_moves⟩ := d_Rule_moves Y
  obtain ⟨fd_Rule_applies, F_Rule_applies, b_Rule_applies⟩ := d_Rule_applies Y
  obtain ⟨fd_Rule_changed, F_Rule_changed⟩ := d_Rule_changed Y
  obtain ⟨fd_Rule_eq, F_Rule_eq, b_Rule_eq⟩ := d_Rule_eq Y
  obtain ⟨fd_Ratio_of, F_Ratio_of, b_Ratio_of⟩ := d_Ratio_of Y
  obtain ⟨fd_Move_divisor, F_Move_divisor, b_Move_divisor⟩ := d_Move_divisor Y
  obtain ⟨fd_Move_plus, F_Move_plus, b_Move_plus⟩ := d_Move_plus Y
  obtain ⟨fd_Move_low, F_Move_low, b_Move_low⟩ := d_Move_low Y
  obtain ⟨fd_Move_high, F_Move_high, b_Move_high⟩ := d_Move_high Y
  obtain ⟨fd_Rule_goal, F_Rule_goal, b_Rule_goal⟩ := d_Rule_goal Y
  obtain ⟨fd_Rule_answer, F_Rule_answer, b_Rule_answer⟩ := d_Rule_answer Y
  obtain ⟨dI, vI, bI, bI0⟩ := rInit_binds F_Ratio_init
  have e := hfa.symm.trans g_law
  cases e

  obtain ⟨gU2, KB2⟩ := rule_kb2 F_Rule_init
  obtain ⟨gU1, KB1⟩ := rule_kb1 F_Rule_init
  obtain ⟨gU0, KB0⟩ := rule_kb0 F_Rule_init
  obtain ⟨gUm, KBm⟩ := rule_kbm F_Rule_init
  refine ⟨fd_law, fun s v => ?_, fun base _ _ TBs => ?_⟩
  · exact FunD.bindsA (ps := ["_law_script"]) D_law (fun _ _ _ _ _ _ us hl => match us, hl with | [_], _ => rfl) s [v] rfl
  · have OI : FnOk P w K mg base CX0 1 _ fd_is_integer ["value"] (spIsInt K) := ok_isInt F_is_integer T_
    have ORI : FnOk P w K mg base CX0 2 _ fd_Ratio_init ["self", "top", "bottom"] (spRInit K) := ok_rInit F_Ratio_init T_ F_is_integer g_is_integer b_is_integer (PySem.W.mg_of Y.X Y.G (He.eqO_ok (Y.chk 25 (b := He.eqO (PySem.W.nsIn K mainGlobals "gcd") (some (some (.builtin "math.gcd")))) rfl)))
    have G : RG P w K mg base := ⟨T_, (of_decide_eq_true (Y.chk 12 (b := decide (PySem.W.kitOne K (.type "int") (.ref (He.ga K "Ratio")) = some false)) rfl)), ⟨_, _, OI, g_is_integer, b_is_integer, D_is_integer.kp⟩, ⟨_, _, dI, (He.mkr_ok (Y.D.fact 75 (f := .mkr "Ratio") rfl)), ORI, vI, bI, bI0⟩⟩
    have OOf : FnOk P w K mg base CX0 4 _ fd_Ratio_of ["cls", "number"] (spOf K) := ok_of F_Ratio_of G
    have Rh : RH P w K mg base := ⟨G, ⟨_, _, _, creadR Y, cmetB_ok (Y.chk 22 (b := cmetB K (He.ga K "Ratio") (.type "type") "of") rfl), toR OOf b_Ratio_of⟩⟩
    have OBl : FnOk P w K mg base CX0 5 _ fd_Ratio_is_below ["self", "other"] (spBelow K) := ok_below F_Ratio_is_below Rh
    have OOv : FnOk P w K mg base CX0 5 _ fd_Ratio_over ["self", "other"] (spBin K rOver fun _ r => r.num ≠ 0) := ok_over F_Ratio_over Rh
    have OAd : FnOk P w K mg base CX0 5 _ fd_Ratio_add ["self", "other"] (spBin K rAdd fun _ _ => True) := ok_rAdd F_Ratio_add Rh
    have OEq : FnOk P w K mg base CX0 1 _ fd_Ratio_eq ["self", "other"] (spREq K) := ok_rEq F_Ratio_eq T_
    have OIn : FnOk P w K mg base CX0 2 _ fd_is_number ["value"] (spIsNum K) := ok_isNum F_is_number T_ F_is_integer g_is_integer b_is_integer (of_decide_eq_true (Y.chk 12 (b := decide (PySem.W.kitOne K (.type "int") (.ref (He.ga K "Ratio")) = some false)) rfl))
    have I : RI P w K mg base := ⟨Rh, ⟨_, _, OIn, g_is_number, b_is_number, D_is_number.kp⟩, ⟨_, _, (He.meth_ok (Y.D.fact 88 (f := .meth "Ratio" "is_below") rfl)), OBl, b_Ratio_is_below⟩, ⟨_, ⟨(He.meth_ok (Y.D.fact 91 (f := .meth "Ratio" "__eq__") rfl)), (He.eqO_ok (Y.chk 4 (b := He.eqO (PySem.W.findIn K (.ref (He.ga K "Ratio")) "__ne__") (some (some (.builtin "object.__ne__")))) rfl)), (of_decide_eq_true (Y.chk 3 (b := decide (PySem.W.mroIn K (He.ga K "Ratio") (.type "object") = some true)) rfl))⟩, toR OEq b_Ratio_eq⟩, FR.len, (He.free_ok Y.X Y.G (Y.D.fact 65 (f := .free "tuple") rfl))⟩
    have OIC : FnOk P w K mg base CX0 3 _ fd_is_cut ["value"] (spIsCut K) := ok_isCut F_is_cut I
    have ORC : FnOk P w K mg base CX0 5 _ fd_ratio_cut ["cut"] (spRatioCut K) := ok_ratioCut F_ratio_cut I F_is_cut g_is_cut b_is_cut
    have J : RJ P w K mg base := ⟨I, ⟨_, _, ORC, g_ratio_cut, b_ratio_cut, D_ratio_cut.kp⟩⟩
    have OIA : FnOk P w K mg base CX0 6 _ fd_is_above ["number", "cut"] (spIsAbove K) := ok_isAbove F_is_above J
    have C : RK P w K mg base := ⟨J, ⟨_, own_add Y, toR OAd b_Ratio_add⟩, ⟨_, _, (He.meth_ok (Y.D.fact 89 (f := .meth "Ratio" "over") rfl)), OOv, b_Ratio_over⟩⟩
    have L : RL P w K mg base := ⟨C⟩
    have OCD : FnOk P w K mg base CX0 2 _ fd_check_divisor ["value"] spChkDiv := ok_chkDiv F_check_divisor G
    have OCP : FnOk P w K mg base CX0 3 _ fd_check_part ["name", "value"] (spChkPart K) := ok_chkPart F_check_part I
    have M : RM P w K mg base := ⟨L, TM, ⟨_, _, OCD, g_check_divisor, b_check_divisor, D_check_divisor.kp⟩, ⟨_, _, OCP, g_check_part, b_check_part, D_check_part.kp⟩⟩
    have OMI : FnOk P w K mg base CX0 6 _ fd_Move_init ["self", "divisor", "plus", "low", "high"] (spMInit K) := ok_mInit F_Move_init M
    have MkMx : MkM P w K mg base := ⟨TM, ⟨_, _, (He.mkr_ok (Y.D.fact 81 (f := .mkr "Move") rfl)), OMI, b_Move_init⟩⟩
    have OWd : FnOk P w K mg base CX0 1 _ fd_is_word ["text"] spWord := ok_word F_is_word NFx
    have ONm : FnOk P w K mg base CX0 2 _ fd_is_name ["value"] (spName K) := ok_name F_is_name NFx ⟨_, _, OWd, g_is_word, b_is_word, D_is_word.kp⟩
    have OIl : FnOk P w K mg base CX0 1 _ fd_is_list ["value"] (spIsList K) := ok_isList F_is_list NFx
    have OOo : FnOk P w K mg base CX0 1 _ fd_is_one_of ["value", "names"] (spOneOf K) := ok_oneOf F_is_one_of NFx
    have OHn : FnOk P w K mg base CX0 3 _ fd_has_names ["value"] (spHasNames K) := ok_hasNames F_has_names NFx ⟨_, _, ONm, g_is_name, b_is_name, D_is_name.kp⟩
    have ONu : FnOk P w K mg base CX0 2 _ fd_is_number ["value"] (spNumB K) := ok_numB OIn (ok_numX F_is_number G)
    have CFx : CF P w K mg base := ⟨NFx, ⟨_, _, ONm, g_is_name, b_is_name, D_is_name.kp⟩, ⟨_, _, OOo, g_is_one_of, b_is_one_of, D_is_one_of.kp⟩, ⟨_, _, ONu, g_is_number, b_is_number, D_is_number.kp⟩, ⟨He.ga K "SIDES", (He.glo_ok Y.X Y.G (Y.D.fact 19 (f := .glo "SIDES") rfl)), fun H => He.tupB_ok (Y.chk 49 (b := He.tupB K "SIDES" [.str "from", .str "above", .str "to", .str "below"]) rfl) H⟩⟩
    have OCo : FnOk P w K mg base CX0 3 _ fd_is_condition ["value"] (spCond K) := ok_cond F_is_condition CFx
    have OEA : FnOk P w K mg base CX0 1 _ fd_InvalidName_init ["self", "value"] (spInit (aIA K) ["value"]) := ok_init1 (fun_of (st := inClass (tp 5) 0) F_InvalidName_init) (xcB_ok (Y.chk 26 (b := xcB K (He.ga K "InvalidName") .ve) rfl)) (He.eqO_ok (Y.chk 27 (b := He.eqO (PySem.W.findIn K (.ref (He.ga K "InvalidName")) "value") (some none)) rfl)) rfl ⟨rfl, rfl, rfl, by decide +kernel, rfl, by decide +kernel, by decide +kernel⟩ rfl rfl (by decide) (by decide)
    have OEW : FnOk P w K mg base CX0 1 _ fd_UnknownLevel_init ["self", "value"] (spInit (aUL K) ["value"]) := ok_init1 (fun_of (st := inClass (tp 11) 0) F_UnknownLevel_init) (xcB_ok (Y.chk 40 (b := xcB K (He.ga K "UnknownLevel") .le) rfl)) (He.eqO_ok (Y.chk 41 (b := He.eqO (PySem.W.findIn K (.ref (He.ga K "UnknownLevel")) "value") (some none)) rfl)) rfl ⟨rfl, rfl, rfl, by decide +kernel, rfl, by decide +kernel, by decide +kernel⟩ rfl rfl (by decide) (by decide)
    have OEL : FnOk P w K mg base CX0 1 _ fd_InvalidRule_init ["self", "part", "position"] (spInit (aIL K) ["part", "position"]) := ok_init2 (fun_of (st := inClass (tp 8) 0) F_InvalidRule_init) (xcB_ok (Y.chk 30 (b := xcB K (He.ga K "InvalidRule") .ve) rfl)) (He.eqO_ok (Y.chk 31 (b := He.eqO (PySem.W.findIn K (.ref (He.ga K "InvalidRule")) "part") (some none)) rfl)) (He.eqO_ok (Y.chk 32 (b := He.eqO (PySem.W.findIn K (.ref (He.ga K "InvalidRule")) "position") (some none)) rfl)) rfl ⟨rfl, rfl, rfl, by decide +kernel, rfl, by decide +kernel, by decide +kernel⟩ rfl rfl rfl (by decide) (by decide) (by decide) (by decide)
    have OET : FnOk P w K mg base CX0 1 _ fd_TooMany_init ["self", "kind", "limit"] (spInit (aTM K) ["kind", "limit"]) := ok_init2 (fun_of (st := inClass (tp 9) 0) F_TooMany_init) (xcB_ok (Y.chk 35 (b := xcB K (He.ga K "TooMany") .ve) rfl)) (He.eqO_ok (Y.chk 36 (b := He.eqO (PySem.W.findIn K (.ref (He.ga K "TooMany")) "kind") (some none)) rfl)) (He.eqO_ok (Y.chk 37 (b := He.eqO (PySem.W.findIn K (.ref (He.ga K "TooMany")) "limit") (some none)) rfl)) rfl ⟨rfl, rfl, rfl, by decide +kernel, rfl, by decide +kernel, by decide +kernel⟩ rfl rfl rfl (by decide) (by decide) (by decide) (by decide)
    have EMx : EM P w K mg base := ⟨xcB_ok (Y.chk 26 (b := xcB K (He.ga K "InvalidName") .ve) rfl), xcB_ok (Y.chk 30 (b := xcB K (He.ga K "InvalidRule") .ve) rfl), xcB_ok (Y.chk 35 (b := xcB K (He.ga K "TooMany") .ve) rfl), (He.glo_ok Y.X Y.G (Y.D.fact 0 (f := .glo "InvalidName") rfl)), (He.glo_ok Y.X Y.G (Y.D.fact 1 (f := .glo "InvalidRule") rfl)), (He.glo_ok Y.X Y.G (Y.D.fact 2 (f := .glo "TooMany") rfl)), ⟨_, _, (He.eqO_ok (Y.chk 28 (b := He.eqO (PySem.W.findIn K (.ref (He.ga K "InvalidName")) "__init__") (some (some (.ref (He.ma K (He.ga K "InvalidName") "__init__"))))) rfl)), (of_decide_eq_true (Y.chk 29 (b := decide (PySem.W.typeIn K (.ref (He.ma K (He.ga K "InvalidName") "__init__")) = some (.type "function"))) rfl)), OEA, b_InvalidName_init⟩, ⟨_, _, (He.eqO_ok (Y.chk 33 (b := He.eqO (PySem.W.findIn K (.ref (He.ga K "InvalidRule")) "__init__") (some (some (.ref (He.ma K (He.ga K "InvalidRule") "__init__"))))) rfl)), (of_decide_eq_true (Y.chk 34 (b := decide (PySem.W.typeIn K (.ref (He.ma K (He.ga K "InvalidRule") "__init__")) = some (.type "function"))) rfl)), OEL, b_InvalidRule_init⟩, ⟨_, _, (He.eqO_ok (Y.chk 38 (b := He.eqO (PySem.W.findIn K (.ref (He.ga K "TooMany")) "__init__") (some (some (.ref (He.ma K (He.ga K "TooMany") "__init__"))))) rfl)), (of_decide_eq_true (Y.chk 39 (b := decide (PySem.W.typeIn K (.ref (He.ma K (He.ga K "TooMany") "__init__")) = some (.type "function"))) rfl)), OET, b_TooMany_init⟩⟩
    have EUx : EU P w K mg base := ⟨xcB_ok (Y.chk 40 (b := xcB K (He.ga K "UnknownLevel") .le) rfl), (He.glo_ok Y.X Y.G (Y.D.fact 4 (f := .glo "UnknownLevel") rfl)), ⟨_, _, (He.eqO_ok (Y.chk 42 (b := He.eqO (PySem.W.findIn K (.ref (He.ga K "UnknownLevel")) "__init__") (some (some (.ref (He.ma K (He.ga K "UnknownLevel") "__init__"))))) rfl)), (of_decide_eq_true (Y.chk 43 (b := decide (PySem.W.typeIn K (.ref (He.ma K (He.ga K "UnknownLevel") "__init__")) = some (.type "function"))) rfl)), OEW, b_UnknownLevel_init⟩⟩
    have OCW : FnOk P w K mg base (L2.CX P w) 4 _ fd_check_when ["when"] (spChkWhen K) := ok_chkWhen F_check_when ⟨_, _, OIl, g_is_list, b_is_list, D_is_list.kp⟩ ⟨_, _, OCo, g_is_condition, b_is_condition, D_is_condition.kp⟩ (He.free_ok Y.X Y.G (Y.D.fact 70 (f := .free "enumerate") rfl)) EMx
    have OCM : FnOk P w K mg base (L2.CX P w) 4 _ fd_check_moves ["moves"] (spChkMoves K) := ok_chkMoves F_check_moves ⟨_, _, OHn, g_has_names, b_has_names, D_has_names.kp⟩ (He.free_ok Y.X Y.G (Y.D.fact 69 (f := .free "sorted") rfl)) (He.glo_ok Y.X Y.G (Y.D.fact 16 (f := .glo "Move") rfl)) NFx EMx
    have RUx : RU P w K mg base := ⟨Rh, NFx, UFx, EMx, ⟨_, _, ONm, g_is_name, b_is_name, D_is_name.kp⟩, ⟨_, _, OCW, g_check_when, b_check_when, D_check_when.kp⟩, ⟨_, _, OCM, g_check_moves, b_check_moves, D_check_moves.kp⟩, (He.free_ok Y.X Y.G (Y.D.fact 69 (f := .free "sorted") rfl)), (by obtain ⟨t, e⟩ := He.int_ok Y.X Y.G (Y.D.fact 51 (f := .int "MOST_CONDITIONS" 8) rfl); exact ⟨_, e, t, rfl⟩)⟩
    have ORu : FnOk P w K mg base (L2.CX P w) 5 _ fd_Rule_init ["self", "goal", "answer", "when", "moves"] (spRuleI K) := ok_ruleI F_Rule_init RUx
    have CHx : CH P w K mg base := ⟨RUx, ⟨He.ga K "PARTS", (He.glo_ok Y.X Y.G (Y.D.fact 20 (f := .glo "PARTS") rfl)), fun H => He.tupB_ok (Y.chk 50 (b := He.tupB K "PARTS" [.str "goal", .str "answer", .str "when", .str "moves"]) rfl) H⟩, ⟨_, _, gU2, (He.mkr_ok (Y.D.fact 87 (f := .mkr "Rule") rfl)), ORu, KB2⟩⟩
    have OCh : FnK P w K mg base (L2.CX P w) 7 _ "self" (spChanged K) := ok_changed F_Rule_changed CHx
    have UEx : UE P w K mg base := ⟨NFx, UFx, (He.eqO_ok (Y.chk 8 (b := He.eqO (PySem.W.findIn K (.ref (He.ga K "Rule")) "__class__") (some (some (.builtin "object.__class__")))) rfl)), (of_decide_eq_true (Y.chk 0 (b := decide (PySem.W.specialIn K (.builtin "object.__class__") "__get__" = some (some (.builtin "getset_descriptor.__get__")))) rfl)), (of_decide_eq_true (Y.chk 1 (b := decide (PySem.W.takesIn K (.builtin "object.__class__") = some true)) rfl)), (of_decide_eq_true (Y.chk 9 (b := decide (PySem.W.mroIn K (He.ga K "Rule") (.type "object") = some true)) rfl)), ⟨_, ⟨(He.meth_ok (Y.D.fact 91 (f := .meth "Ratio" "__eq__") rfl)), (He.eqO_ok (Y.chk 4 (b := He.eqO (PySem.W.findIn K (.ref (He.ga K "Ratio")) "__ne__") (some (some (.builtin "object.__ne__")))) rfl)), (of_decide_eq_true (Y.chk 3 (b := decide (PySem.W.mroIn K (He.ga K "Ratio") (.type "object") = some true)) rfl))⟩, toR OEq b_Ratio_eq⟩⟩
    have OMe : FnOk P w K mg base CX0 3 _ fd_Move_eq ["self", "other"] (spMEq K) := ok_mEq F_Move_eq M
    have MQ : ∃ f, OwnEq K (aM K) f ∧ FnR P w K mg base CX0 3 f (spMEq K) := ⟨_, ⟨(He.meth_ok (Y.D.fact 93 (f := .meth "Move" "__eq__") rfl)), (He.eqO_ok (Y.chk 7 (b := He.eqO (PySem.W.findIn K (.ref (He.ga K "Move")) "__ne__") (some (some (.builtin "object.__ne__")))) rfl)), (of_decide_eq_true (Y.chk 6 (b := decide (PySem.W.mroIn K (He.ga K "Move") (.type "object") = some true)) rfl))⟩, toR OMe b_Move_eq⟩
    have ORe : FnOk P w K mg base CX0 5 _ fd_Rule_eq ["self", "other"] (spRuleEqM K) := ok_ruleEqM F_Rule_eq UEx MQ
    have Ogo : FnOk P w K mg base CX0 1 _ fd_Rule_goal ["self"] (spRuTell K true) := ok_ruGoal F_Rule_goal UFx
    have Oan : FnOk P w K mg base CX0 1 _ fd_Rule_answer ["self"] (spRuTell K false) := ok_ruAns F_Rule_answer UFx
    have Owh : FnOk P w K mg base CX0 1 _ fd_Rule_when ["self"] (spRuWhen K) := ok_ruWhen F_Rule_when UFx
    have Omo : FnOk P w K mg base CX0 1 _ fd_Rule_moves ["self"] (spRuMoves K) := ok_ruMoves F_Rule_moves UFx NFx
    have Occ : FnOk P w K mg base CX0 1 _ fd_condition_cut ["condition"] (spCondCut K) := ok_condCut F_condition_cut
    have Owa : FnOk P w K mg base CX0 1 _ fd_wants_above ["condition"] (spWants K) := ok_wants F_wants_above
    have RAx : RA P w K mg base := ⟨UFx, EUx, ⟨_, _, OIA, g_is_above, b_is_above, D_is_above.kp⟩, ⟨_, _, Occ, g_condition_cut, b_condition_cut, D_condition_cut.kp⟩, ⟨_, _, Owa, g_wants_above, b_wants_above, D_wants_above.kp⟩, (He.free_ok Y.X Y.G (Y.D.fact 63 (f := .free "all") rfl))⟩
    have Oap : FnOk P w K mg base (L2.CX P w) 7 _ fd_Rule_applies ["self", "levels"] (spApplies K) := ok_applies F_Rule_applies RAx
    have ORp : FnC P w K mg base  1 _ fd_Ratio_repr ["self"] (spRepr K) := ok_repr F_Ratio_repr T_
    have RFx : RepF P w K mg base := ⟨_, _, (He.meth_ok (Y.D.fact 92 (f := .meth "Ratio" "__repr__") rfl)), ORp, b_Ratio_repr⟩
    have Omd : FnOk P w K mg base CX0 1 _ fd_Move_divisor ["self"] _ := ok_mDiv F_Move_divisor TM
    have Omp : FnOk P w K mg base CX0 1 _ fd_Move_plus ["self"] (spMGet K fun u _ _ => u) := ok_mPlus F_Move_plus TM
    have Oml : FnOk P w K mg base CX0 1 _ fd_Move_low ["self"] (spMGet K fun _ l _ => l) := ok_mLow F_Move_low TM
    have Omh : FnOk P w K mg base CX0 1 _ fd_Move_high ["self"] (spMGet K fun _ _ h => h) := ok_mHigh F_Move_high TM
    have TEx : TellF P w K mg base := ⟨UFx, ⟨_, _, _, propB_ok (Y.chk 20 (b := propB K (He.ga K "Rule") "goal") rfl), Ogo, b_Rule_goal⟩, ⟨_, _, _, propB_ok (Y.chk 21 (b := propB K (He.ga K "Rule") "answer") rfl), Oan, b_Rule_answer⟩, ⟨_, _, (He.meth_ok (Y.D.fact 94 (f := .meth "Rule" "when") rfl)), Owh, b_Rule_when⟩, ⟨_, _, (He.meth_ok (Y.D.fact 95 (f := .meth "Rule" "moves") rfl)), Omo, b_Rule_moves⟩⟩
    have MUx : MkU P w K mg base := ⟨UEx, MkMx, G, ⟨_, (He.meth_ok (Y.D.fact 97 (f := .meth "Rule" "changed") rfl)), OCh⟩, ⟨_, _, gU2, (He.mkr_ok (Y.D.fact 87 (f := .mkr "Rule") rfl)), ORu, KB2⟩, ⟨_, _, gU1, (He.mkr_ok (Y.D.fact 87 (f := .mkr "Rule") rfl)), ORu, KB1⟩, ⟨_, ⟨(He.meth_ok (Y.D.fact 98 (f := .meth "Rule" "__eq__") rfl)), (He.eqO_ok (Y.chk 10 (b := He.eqO (PySem.W.findIn K (.ref (He.ga K "Rule")) "__ne__") (some (some (.builtin "object.__ne__")))) rfl)), (of_decide_eq_true (Y.chk 9 (b := decide (PySem.W.mroIn K (He.ga K "Rule") (.type "object") = some true)) rfl))⟩, toR ORe b_Rule_eq⟩, (of_decide_eq_true (Y.chk 47 (b := decide (PySem.W.kitOne K (.type "tuple") (.ref (He.ga K "Rule")) = some false)) rfl)), (Y.chk 48 (b := PySem.W.notFirst K (He.ga K "Rule") (.type "tuple")) rfl)⟩
    have NEx : NearF P w K mg base := ⟨MUx, FR, ⟨_, own_add Y, toR OAd b_Ratio_add⟩, ⟨_, _, _, propB_ok (Y.chk 16 (b := propB K (He.ga K "Move") "divisor") rfl), Omd, b_Move_divisor⟩, ⟨_, _, _, propB_ok (Y.chk 17 (b := propB K (He.ga K "Move") "plus") rfl), Omp, b_Move_plus⟩, ⟨_, _, _, propB_ok (Y.chk 18 (b := propB K (He.ga K "Move") "low") rfl), Oml, b_Move_low⟩, ⟨_, _, _, propB_ok (Y.chk 19 (b := propB K (He.ga K "Move") "high") rfl), Omh, b_Move_high⟩⟩
    have LTx : LTo P w K mg base := ⟨UFx, EUx, ⟨_, _, (He.meth_ok (Y.D.fact 96 (f := .meth "Rule" "applies") rfl)), Oap, b_Rule_applies⟩, (He.eqO_ok (Y.chk 41 (b := He.eqO (PySem.W.findIn K (.ref (He.ga K "UnknownLevel")) "value") (some none)) rfl)), (He.glo_ok Y.X Y.G (Y.D.fact 3 (f := .glo "MissingError") rfl)), (of_decide_eq_true (Y.chk 44 (b := decide (PySem.W.exmOne K (.ref (He.ga K "UnknownLevel")) (.ref (He.ga K "UnknownLevel")) = some true)) rfl)), (of_decide_eq_true (Y.chk 45 (b := decide (PySem.W.kitOne K (.ref (He.ga K "UnknownLevel")) (.ref (He.ga K "MissingError")) = some true)) rfl)), (of_decide_eq_true (Y.chk 46 (b := decide (PySem.W.kitOne K (.ref (He.ga K "UnknownLevel")) (.type "LookupError") = some true)) rfl)), (He.free_ok Y.X Y.G (Y.D.fact 53 (f := .free "isinstance") rfl)), (He.free_ok Y.X Y.G (Y.D.fact 71 (f := .free "LookupError") rfl)), (of_decide_eq_true (Y.chk 0 (b := decide (PySem.W.specialIn K (.builtin "object.__class__") "__get__" = some (some (.builtin "getset_descriptor.__get__")))) rfl)), (of_decide_eq_true (Y.chk 1 (b := decide (PySem.W.takesIn K (.builtin "object.__class__") = some true)) rfl))⟩
    have KEx : KeptF P w K mg base := ⟨TEx, NFx, RFx, (He.free_ok Y.X Y.G (Y.D.fact 66 (f := .free "repr") rfl)), (He.free_ok Y.X Y.G (Y.D.fact 69 (f := .free "sorted") rfl)), MQ, MkMx⟩
    have Lrng : FnOk P w K mg base CX0 1 _ fd_lpot ["_law_script", "_law_index"] (spRng K) := ok_rng F_lpot FR
    have Ldraw : FnOk P w K mg base CX0 1 _ fd_ldraw ["_law_pot_here", "_law_many"] spDraw := ok_draw F_ldraw FR
    have Lpick : FnOk P w K mg base CX0 2 _ fd_lpick ["_law_pot_here", "_law_some"] (spChoice K) := ok_choice F_lpick FR F_ldraw g_ldraw b_ldraw
    have Llo : FnOk P w K mg base CX0 1 _ fd_llowest ["_law_top", "_law_bottom"] (spLowest K) := ok_lowest F_llowest FR
    have Lle : FnOk P w K mg base CX0 1 _ fd_lless ["_law_one", "_law_beside"] (spLess K) := ok_less F_lless
    have Lbe : FnOk P w K mg base CX0 2 _ fd_lbetween ["_law_low", "_law_high", "_law_share"] (spBetween K) := ok_between F_lbetween ⟨_, _, Llo, g_llowest, b_llowest, D_llowest.kp⟩
    have Lgi : FnOk P w K mg base CX0 4 _ fd_lgiven ["_law_pot_here", "_law_pair"] (spGiven K) := ok_given F_lgiven ⟨_, _, Ldraw, g_ldraw, b_ldraw, D_ldraw.kp⟩ G
    have Lsp : FnOk P w K mg base CX0 3 _ fd_lspans ["_law_pot_here"] (spSpans K) := ok_spans F_lspans ⟨_, _, Ldraw, g_ldraw, b_ldraw, D_ldraw.kp⟩ ⟨_, _, Lpick, g_lpick, b_lpick, D_lpick.kp⟩ ⟨_, _, Llo, g_llowest, b_llowest, D_llowest.kp⟩
    have Lsh : FnOk P w K mg base CX0 3 _ fd_lshift ["_law_pot_here", "_law_span"] (spShift K) := ok_shift F_lshift ⟨_, _, Ldraw, g_ldraw, b_ldraw, D_ldraw.kp⟩ ⟨_, _, Lpick, g_lpick, b_lpick, D_lpick.kp⟩ ⟨_, _, Lbe, g_lbetween, b_lbetween, D_lbetween.kp⟩ (He.free_ok Y.X Y.G (Y.D.fact 69 (f := .free "sorted") rfl))
    have Lss : FnOk P w K mg base CX0 4 _ fd_lshifts ["_law_pot_here", "_law_spans_here"] (spShifts K) := ok_shifts F_lshifts ⟨_, _, Ldraw, g_ldraw, b_ldraw, D_ldraw.kp⟩ ⟨_, _, Lsh, g_lshift, b_lshift, D_lshift.kp⟩
    have Lcl : FnOk P w K mg base CX0 3 _ fd_lclaims ["_law_pot_here", "_law_spans_here"] (spClaims K) := ok_claims F_lclaims FR (He.free_ok Y.X Y.G (Y.D.fact 69 (f := .free "sorted") rfl)) ⟨_, _, Ldraw, g_ldraw, b_ldraw, D_ldraw.kp⟩ ⟨_, _, Lpick, g_lpick, b_lpick, D_lpick.kp⟩ ⟨_, _, Lbe, g_lbetween, b_lbetween, D_lbetween.kp⟩
    have Lmo : FnOk P w K mg base CX0 8 _ fd_lmove ["_law_pot_here", "_law_shift_here"] (spLMove K) := ok_lmove F_lmove MkMx ⟨_, _, Lgi, g_lgiven, b_lgiven, D_lgiven.kp⟩
    have Lho : FnOk P w K mg base CX0 2 _ fd_lholds ["_law_claim", "_law_numbers"] (spHolds K) := ok_holds F_lholds ⟨_, _, Lle, g_lless, b_lless, D_lless.kp⟩
    have Lro : FnOk P w K mg base CX0 5 _ fd_lrow ["_law_pot_here"] (spLRow K) := ok_lrow F_lrow ⟨_, _, Lpick, g_lpick, b_lpick, D_lpick.kp⟩ ⟨_, _, Lsp, g_lspans, b_lspans, D_lspans.kp⟩ ⟨_, _, Lcl, g_lclaims, b_lclaims, D_lclaims.kp⟩ ⟨_, _, Lss, g_lshifts, b_lshifts, D_lshifts.kp⟩
    have Lto : FnOk P w K mg base CX0 8 _ fd_ltold ["_law_rule", "_law_numbers"] (spTold K) := ok_told F_ltold LTx
    have Lpa : FnOk P w K mg base CX0 3 _ fd_lparts ["_law_rule"] (spLParts K) := ok_parts F_lparts TEx
    have Lke : FnG P w K mg base CX0 8 _ fd_lkept ["_law_rule", "_law_claims_given", "_law_shifts_given", "_law_due"] (spKept K) := ok_kept F_lkept KEx ⟨_, _, Lpa, g_lparts, b_lparts, D_lparts.kp⟩
    have APx : AppF P w K mg base := ⟨LTx, FR, NFx, RFx, (He.free_ok Y.X Y.G (Y.D.fact 66 (f := .free "repr") rfl)), ⟨_, _, Ldraw, g_ldraw, b_ldraw, D_ldraw.kp⟩, ⟨_, _, Lpick, g_lpick, b_lpick, D_lpick.kp⟩, ⟨_, _, Lbe, g_lbetween, b_lbetween, D_lbetween.kp⟩, ⟨_, _, Lgi, g_lgiven, b_lgiven, D_lgiven.kp⟩, ⟨_, _, Lho, g_lholds, b_lholds, D_lholds.kp⟩, ⟨_, _, Lto, g_ltold, b_ltold, D_ltold.kp⟩⟩
    have Lap : FnG P w K mg base CX0 9 _ fd_lapplied ["_law_pot_here", "_law_rule", "_law_row_here"] (spApplied K) := ok_applied F_lapplied APx
    have Lch : FnOk P w K mg base CX0 9 _ fd_lchanged_right ["_law_rule", "_law_due"] (spChR K) := ok_chR F_lchanged_right MUx
    have Lne : FnOk P w K mg base CX0 9 _ fd_lnear_unlike ["_law_rule", "_law_due"] (spNear K) := ok_near F_lnear_unlike NEx
    have RIx : RiF P w K mg base (.ref (kwAt "Rule" "__init__" "when" K)) := ⟨NEx, APx, KEx, ⟨_, _, Lro, g_lrow, b_lrow, D_lrow.kp⟩, ⟨_, _, Lmo, g_lmove, b_lmove, D_lmove.kp⟩, ⟨_, _, Lpa, g_lparts, b_lparts, D_lparts.kp⟩, ⟨_, _, Lke, g_lkept, b_lkept, D_lkept.kp⟩, ⟨_, _, Lap, g_lapplied, b_lapplied, D_lapplied.kp⟩, ⟨_, _, Lch, g_lchanged_right, b_lchanged_right, D_lchanged_right.kp⟩, ⟨_, _, Lne, g_lnear_unlike, b_lnear_unlike, D_lnear_unlike.kp⟩, ⟨_, _, gU0, (He.mkr_ok (Y.D.fact 87 (f := .mkr "Rule") rfl)), ORu, KB0⟩, ⟨_, _, gUm, (He.mkr_ok (Y.D.fact 87 (f := .mkr "Rule") rfl)), ORu, KBm⟩, ⟨_, .type "tuple", rfl, (tup0B_ok (Y.chk 51 (b := tup0B K (kwAt "Rule" "__init__" "when" K)) rfl)).1, kit_tuple, (tup0B_ok (Y.chk 51 (b := tup0B K (kwAt "Rule" "__init__" "when" K)) rfl)).2⟩⟩
    have Lri : FnG P w K mg base CX0 10 _ fd_lright ["_law_pot_here"] (spRight K) := ok_right F_lright RIx
    have Lse : FnOk P w K mg base CX0 9 _ fd_lsequence_right [] spSeq := ok_seq F_lsequence_right MUx LTx FR ⟨_, _, Lto, g_ltold, b_ltold, D_ltold.kp⟩
    exact ok_law F_law FR ⟨_, _, Lrng, g_lpot, b_lpot, D_lpot.kp⟩ ⟨_, _, Lse, g_lsequence_right, b_lsequence_right, D_lsequence_right.kp⟩ ⟨_, _, Lri, g_lright, b_lright, D_lright.kp⟩
end K18
set_option maxHeartbeats 0
open PySem PySem.W PySem.Calls PyProof.Rows
theorem PySem.Challenge.cw_fademodes_k20_rules_made_holds : PySem.Challenge.rw_fademodes_k20_rules_made.Holds := by
  w_on; o_law
  refine HandSHeadRun.head_imp (r := OpenLaw.row PySem.Challenge.rw_fademodes_k20_rules_made) (q := view (OpenLaw.row PySem.Challenge.rw_fademodes_k20_rules_made).prog [0, 68]) (H := K18.hk) (ob := K18.ob) (M := 20000) (loose := K18.loose) (d := HandSHeadRun.topDef (OpenLaw.row PySem.Challenge.rw_fademodes_k20_rules_made).prog 68) (kwd := []) K18.ob_eq
    K18.run (by kernel_rfl) (by kernel_rfl) (by kernel_rfl) (by rfl) (by first | assumption | decide +kernel) (by decide +kernel) ⟨rfl, rfl, rfl, rfl, rfl, by decide +kernel⟩ ?hw ?hc
  case hw => w_witness2
  case hc =>
    refine GL.walk_T2 (l := PySem.Challenge.rw_fademodes_k20_rules_made) (n := 63) (k := 11) (x := "_law_script") rfl (by decide) (by kernel_rfl) ⟨rfl, by decide, by decide⟩ ?F
    intro w mg fa h Y G hmg0
    obtain ⟨K, T, KX, TX, c, cx, b, tb⟩ := Y
    have hmg : mg ("law" : PySem.Str) = some (.ref fa) := by
      have e : (HandSHeadRun.topDef (OpenLaw.row PySem.Challenge.rw_fademodes_k20_rules_made).prog 68).name = ("law" : PySem.Str) := by kernel_rfl
      rw [← e]
      exact hmg0
    obtain ⟨b1, b2⟩ := He.ba b
    have one : ∀ f ∈ K18.lamF K, PySem.W.CodeHd h (GL.codeAt K f) (GL.tabAt K (GL.codeAt K f)) ∧ K.lookup (GL.tabAt K (GL.codeAt K f)) = none ∧ h.get? (GL.tabAt K (GL.codeAt K f)) = some { cls := .none, data := .fields #[] } := by
      intro f hf
      obtain ⟨t1, t2⟩ := He.ba (List.all_eq_true.mp tb f hf)
      obtain ⟨c1, c2, _⟩ := GL.codeB_ok KX t1
      refine ⟨c1, c2, ?_⟩
      split at t2
      · rename_i o e
        rw [GL.isTab_eq t2] at e
        exact TX _ _ e
      · cases t2
    have tabs : ∀ {y : PySem.Addr}, y ∈ ((K18.lamF K).map (fun f => (GL.codeAt K f, GL.tabAt K (GL.codeAt K f)))).map Prod.snd → ∃ f ∈ K18.lamF K, y = GL.tabAt K (GL.codeAt K f) := by
      intro y hy
      obtain ⟨x, hx, rfl⟩ := List.mem_map.mp hy
      obtain ⟨f, hf, rfl⟩ := List.mem_map.mp hx
      exact ⟨f, hf, rfl⟩
    obtain ⟨fd, hb, hF⟩ := K18.facts (P := (PySem.Challenge.rw_fademodes_k20_rules_made).prog) (w := w) ⟨KX, TX, G, c, cx, GL.sysB_ok b1, b2, tb⟩ hmg
    refine ⟨K, (K18.lamF K).map (fun f => (GL.codeAt K f, GL.tabAt K (GL.codeAt K f))), fd, K18.spLaw K, KX, ?_, ?_, ?_, hb, ?_, hF⟩
    · intro y hy
      obtain ⟨f, hf, rfl⟩ := tabs hy
      exact (one f hf).2.2
    · intro y hy
      obtain ⟨f, hf, rfl⟩ := tabs hy
      exact (one f hf).2.1
    · intro x hx
      obtain ⟨f, hf, rfl⟩ := List.mem_map.mp hx
      exact (one f hf).1
    · intro H a ns hl ht hS
      exact ⟨a, ns, rfl, hS, hl, fun _ => rfl⟩
